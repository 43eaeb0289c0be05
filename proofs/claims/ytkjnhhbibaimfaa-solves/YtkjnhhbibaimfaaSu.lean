import Derived.Test.YtkjnhhbibaimfaaSt
import Derived.Test.YtkjnhhbibaimfaaXd
namespace Go.Proofs.Ytkjnhhbibaimfaa
open Go.RowKit Fw
open Go.Deep (BT)
set_option linter.unusedVariables false

/-- the errors of Solve -/
def flt (g f s : ByteArray) : Nat :=
  if 210 < g.size ∨ 30 < s.size then 1 else if (chk g).1 ≠ 0 then (chk g).1 else if fairOk f = false then 4 else (frm s).1

set_option maxRecDepth 100000 in
set_option maxHeartbeats 2000000 in
theorem fault_is (g f s : ByteArray) (w : World) (hf : f.size ≤ 9223372036854775807) :
    Calls Try.prog 56 #[.string g, .string f, .string s] w fun e w' => e = .returned (.int .i64 (flt g f s : Nat)) ∧ Below w.heap.size w w' := by
  by_cases hg : 210 < g.size
  · have HF : Hid (flt g f s = 1) := by show _ = _; rw [flt, if_pos (.inl hg)]
    have hd : decide ((210 : Int) < (g.size : Int)) = true := by simp; omega
    go_enter Try.func56, Try.ntmps56
    go_wp2_with fail
    go_ret
    exact ⟨by rw [HF.out]; rfl, Below.refl _ _⟩
  · have hd : decide ((210 : Int) < (g.size : Int)) = false := by simp; omega
    by_cases hs : 30 < s.size
    · have HF : Hid (flt g f s = 1) := by show _ = _; rw [flt, if_pos (.inr hs)]
      have hd2 : decide ((30 : Int) < (s.size : Int)) = true := by simp; omega
      go_enter Try.func56, Try.ntmps56
      go_wp2_with fail
      go_ret
      exact ⟨by rw [HF.out]; rfl, Below.refl _ _⟩
    · have hd2 : decide ((30 : Int) < (s.size : Int)) = false := by simp; omega
      have HF0 : Hid (flt g f s = if (chk g).1 ≠ 0 then (chk g).1 else if fairOk f = false then 4 else (frm s).1) := by show _ = _; rw [flt, if_neg (by omega)]
      have HC := refCheck_any g w (by omega)
      obtain ⟨c1, hc1⟩ : ∃ c1, c1 = (chk g).1 := ⟨_, rfl⟩
      obtain ⟨c2, hc2⟩ : ∃ c2, c2 = (chk g).2 := ⟨_, rfl⟩
      rw [← hc1] at HF0 HC
      rw [← hc2] at HC
      clear hc1 hc2
      by_cases h0 : c1 = 0
      · subst h0
        have HF1 : Hid (flt g f s = if fairOk f = false then 4 else (frm s).1) := by show _ = _; rw [HF0.out, if_neg (by simp)]
        cases hk : fairOk f with
        | false =>
          have HF : Hid (flt g f s = 4) := by show _ = _; rw [HF1.out, if_pos hk]
          have HI : ∀ w', Calls Try.prog 78 #[.string f] w' fun e w'' => e = .returned (.bool false) ∧ ∃ n, w'' = w'.drewN n := fun w' => by rw [← hk]; exact isFair_is f w' hf
          clear hk HF0 HF1
          go_enter Try.func56, Try.ntmps56
          go_wp2_with (first
            | (go_at_call 35; refine HC.mono ?_; rintro e w1 ⟨rfl, hb1⟩)
            | (go_at_call 78; refine (HI _).mono ?_; rintro e w2 ⟨rfl, n, rfl⟩))
          go_ret
          exact ⟨by rw [HF.out]; rfl, below_drewN hb1 n⟩
        | true =>
          have HF : Hid (flt g f s = (frm s).1) := by show _ = _; rw [HF1.out, if_neg (by simp [hk])]
          have HI : ∀ w', Calls Try.prog 78 #[.string f] w' fun e w'' => e = .returned (.bool true) ∧ ∃ n, w'' = w'.drewN n := fun w' => by rw [← hk]; exact isFair_is f w' hf
          clear hk HF0 HF1
          have HM := fun w' => refForm_any s w' (by omega)
          go_enter Try.func56, Try.ntmps56
          go_wp2_with (first
            | (go_at_call 35; refine HC.mono ?_; rintro e w1 ⟨rfl, hb1⟩)
            | (go_at_call 78; refine (HI _).mono ?_; rintro e w2 ⟨rfl, n, rfl⟩)
            | (go_at_call 38; refine (HM _).mono ?_; rintro e w3 ⟨rfl, m, rfl⟩))
          go_ret
          exact ⟨by rw [HF.out]; rfl, below_drewN hb1 (n + m)⟩
      · have HF : Hid (flt g f s = c1) := by show _ = _; rw [HF0.out, if_pos h0]
        have hn : ((c1 : Int) != 0) = true := by rw [bne_iff_ne]; omega
        clear HF0
        go_enter Try.func56, Try.ntmps56
        go_wp2_with (first
          | (go_at_call 35; refine HC.mono ?_; rintro e w1 ⟨rfl, hb1⟩))
        go_ret
        exact ⟨by rw [HF.out]; rfl, hb1⟩

end Go.Proofs.Ytkjnhhbibaimfaa
