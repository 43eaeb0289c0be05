import Derived.Test.YtcfbfdjmcabnkabGreatChecked
import Derived.WalkKit
import Derived.WalkSpells
import Derived.WalkLawsBesides
import Derived.BigQuiet
import Derived.Test.YtcfbfdjmcabnkabGreatG1
set_option maxHeartbeats 1000000
namespace Go.Proofs.YtcfbfdjmcabnkabGreat
open Go.RowKit Fw
set_option linter.unusedVariables false
theorem ret_int {k : IntKind} {a b : Int} (h : a = b) : Ending.returned (.int k a) = .returned (.int k b) := by rw [h]
theorem stands_any (s : ByteArray) (p : Nat) (c : Nat) (w : World) (hs : s.size <= 210) (hp : p <= 211) (hc : c < 256) :
   Calls Tryz.prog 98 #[.string s, .int .i64 p, .int .u8 c] w fun e w' => e = .returned (.bool (decide (∃ h : p < s.size, s[p].toNat = c))) ∧ w' = w := by
 by_cases hlt : p < s.size
 · by_cases he : s[p].toNat = c
   · have he' : ((s[p].toNat : Int) == (c : Int)) = true := by rw [beq_iff_eq]; omega
     go_enter Tryz.func98, Tryz.ntmps98
     go_wp2
     go_ret
     exact ⟨by simp [hlt, he], rfl⟩
   · have he' : ((s[p].toNat : Int) == (c : Int)) = false := by rw [beq_eq_false_iff_ne]; omega
     go_enter Tryz.func98, Tryz.ntmps98
     go_wp2
     go_ret
     exact ⟨by simp [hlt, he], rfl⟩
 · go_enter Tryz.func98, Tryz.ntmps98
   go_wp2
   go_ret
   exact ⟨by simp [hlt], rfl⟩
theorem skip_any (s : ByteArray) (p : Nat) (w : World) (hs : s.size <= 210) (hp : p <= s.size) :
   Calls Tryz.prog 74 #[.string s, .int .i64 p] w fun e w' => e = .returned (.int .i64 ((p + scan 122 97 (tl s p) : Nat) : Int)) ∧ w' = w := by
 go_enter Tryz.func74, Tryz.ntmps74
 go_wp2
 go_loop [1, 5] (fun q l => ∃ k lo : Nat, k <= s.size ∧ lo <= 123 ∧ q = .int .i64 k ∧ l = .int .u8 lo ∧ Hid (k + scan 122 lo (tl s k) = p + scan 122 97 (tl s p))) (fun q _ => s.size - (intOf q).toNat)
 case atStart => exact ⟨p, 97, hp, by omega, rfl, rfl, rfl⟩
 case round =>
   obtain ⟨k, lo, hk, hlo, rfl, rfl, HS⟩ := hrel
   by_cases hlt : k < s.size
   · by_cases h1 : (lo : Int) <= (s[k].toNat : Int)
     · by_cases h2 : (s[k].toNat : Int) <= 122
       · go_wp2
         go_round
         case rel =>
           refine ⟨k + 1, s[k].toNat + 1, by omega, by omega, by go_num, by go_num, ?_⟩
           have := scan_yes s 122 lo k hlt (by omega) (by omega)
           have h := HS.out
           show _ = _
           omega
         case measure => simp [intOf]; omega
       · go_wp2
         go_ret
         have := scan_no s 122 lo k hlt (by omega)
         have h := HS.out
         exact ⟨ret_int (by omega), rfl⟩
     · go_wp2
       go_ret
       have := scan_no s 122 lo k hlt (by omega)
       have h := HS.out
       exact ⟨ret_int (by omega), rfl⟩
   · go_wp2
     go_ret
     have := scan_end s 122 lo k (by omega)
     have h := HS.out
     exact ⟨ret_int (by omega), rfl⟩
theorem i64_sub_one (k : Nat) (h : 0 < k) (h2 : k <= 210) : IntKind.i64.wrap ((k : Int) - 1) = ((k - 1 : Nat) : Int) := by
 rw [IntKind.wrap_i64]; omega
def LowAt (s : ByteArray) (lo L k : Nat) : Prop := (k = 0 ∧ L = lo) ∨ (0 < k ∧ lo <= L ∧ ∃ h : k - 1 < s.size, s[k - 1].toNat + 1 = L)
theorem LowAt.le {s : ByteArray} {lo L k : Nat} (h : LowAt s lo L k) : lo <= L := by
 rcases h with ⟨_, h⟩ | ⟨_, h, _⟩ <;> omega
theorem rises_any (s : ByteArray) (lo hi : Nat) (w : World) (hs : s.size <= 210) (hlo : lo < 200) (hhi : hi < 200) :
   Calls Tryz.prog 40 #[.string s, .int .u8 lo, .int .u8 hi] w fun e w' => e = .returned (.int .i64 ((scan hi lo (tl s 0) : Nat) : Int)) ∧ ∃ n, w' = w.drewN n := by
 go_enter Tryz.func40, Tryz.ntmps40
 go_wp2
 go_loopw [7] (fun q wr => ∃ k L n : Nat, k <= s.size ∧ q = .int .i64 k ∧ Hid (k + scan hi L (tl s k) = scan hi lo (tl s 0)) ∧ Hid (wr = w.drewN n) ∧ Hid (LowAt s lo L k)) (fun q _ => s.size - (intOf q).toNat)
 case atStart => exact ⟨0, lo, 0, by omega, rfl, by show _ = _; omega, rfl, .inl ⟨rfl, rfl⟩⟩
 case round =>
   obtain ⟨k, L, n, hk, rfl, HS, HW, HL⟩ := hrel
   have hL := HL.out.le
   by_cases hlt : k < s.size
   · by_cases h1 : s[k].toNat < lo
     · have d1 : decide (s[k].toNat < lo) = true := by simpa using h1
       go_wp2
       go_quiet (fail)
       go_wp2
       go_ret
       have := scan_no s hi L k hlt (by omega)
       have h := HS.out
       exact ⟨ret_int (by omega), by rw [HW.out]; exact ⟨_, World.drewN_drewN _ _ _⟩⟩
     · have d1 : decide (s[k].toNat < lo) = false := by simpa using h1
       by_cases h2 : hi < s[k].toNat
       · have d2 : decide (hi < s[k].toNat) = true := by simpa using h2
         go_wp2
         go_quiet (fail)
         go_wp2
         go_ret
         have := scan_no s hi L k hlt (by omega)
         have h := HS.out
         exact ⟨ret_int (by omega), by rw [HW.out]; exact ⟨_, World.drewN_drewN _ _ _⟩⟩
       · have d2 : decide (hi < s[k].toNat) = false := by simpa using h2
         rcases HL.out with ⟨rfl, HL1⟩ | ⟨hk0, _, hk1, HL1⟩
         · go_wp2
           go_quiet (fail)
           go_wp2
           go_roundw
           case rel =>
             have := scan_yes s hi L 0 hlt (by omega) (by omega)
             have h := HS.out
             simp only [Nat.zero_add] at this h
             refine ⟨1, s[0].toNat + 1, _, by omega, rfl, ?_, by rw [HW.out]; exact World.drewN_drewN _ _ _, .inr ⟨by omega, by omega, hlt, rfl⟩⟩
             show _ = _
             omega
           case measure => simp [intOf]; omega
         · have h0 : decide ((0 : Int) < (k : Int)) = true := by simpa using hk0
           have hwr := i64_sub_one k hk0 (by omega)
           have HL2 : Hid (s[k - 1].toNat + 1 = L) := HL1
           clear HL1
           by_cases h3 : s[k].toNat <= s[k - 1].toNat
           · have d3 : decide (s[k].toNat <= s[k - 1].toNat) = true := by simpa using h3
             go_wp2
             go_quiet (fail)
             go_wp2
             go_ret
             have := scan_no s hi L k hlt (by have := HL2.out; omega)
             have h := HS.out
             exact ⟨ret_int (by omega), by rw [HW.out]; exact ⟨_, World.drewN_drewN _ _ _⟩⟩
           · have d3 : decide (s[k].toNat <= s[k - 1].toNat) = false := by simpa using h3
             go_wp2
             go_quiet (fail)
             go_wp2
             go_roundw
             case rel =>
               have := scan_yes s hi L k hlt (by have := HL2.out; omega) (by omega)
               have h := HS.out
               refine ⟨k + 1, s[k].toNat + 1, _, by omega, by go_num, ?_, by rw [HW.out]; exact World.drewN_drewN _ _ _, .inr ⟨by omega, by have := HL2.out; omega, by simpa using hlt, by simp⟩⟩
               show _ = _
               omega
             case measure => simp [intOf]; omega
   · go_wp2
     go_ret
     have := scan_end s hi L k (by omega)
     have h := HS.out
     exact ⟨ret_int (by omega), by rw [HW.out]; exact ⟨_, rfl⟩⟩
end Go.Proofs.YtcfbfdjmcabnkabGreat
