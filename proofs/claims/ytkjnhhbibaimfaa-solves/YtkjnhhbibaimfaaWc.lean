import Derived.Test.YtkjnhhbibaimfaaWb
namespace Go.Proofs.Ytkjnhhbibaimfaa
open Go.RowKit Fw
set_option linter.unusedVariables false

theorem flat_get (s : ByteArray) (p : Nat) : ∀ (acc : List Nat) (i : Nat), acc[i]? = some p → (flat s acc)[i * 2 + 1]? = some (.string (s.extract (arrow s p + 1) (stop s p))) := by
  intro acc
  induction acc with
  | nil => intro i h; simp at h
  | cons q r ih =>
    intro i h
    cases i with
    | zero =>
      simp at h
      subst h
      simp [flat, two]
    | succ i =>
      have h' := ih i (by simpa using h)
      have e : (i + 1) * 2 + 1 = (i * 2 + 1) + 2 := by omega
      rw [e]
      simpa [flat, two] using h'

set_option maxRecDepth 100000 in
set_option maxHeartbeats 1000000 in
theorem refCheck_long (s : ByteArray) (w : World) (hs : ¬ s.size ≤ 210) :
    Calls Try.prog 35 #[.string s] w fun e w' => e = .returned (.tuple #[.int .i64 1, .int .i64 0]) ∧ w' = w := by
  have h : (210 : Int) < (s.size : Int) := by omega
  go_enter Try.func35, Try.ntmps35
  go_wp2_with fail
  go_ret2
  exact ⟨rfl, rfl⟩

set_option maxRecDepth 100000 in
set_option maxHeartbeats 1000000 in
theorem refCheck_any (s : ByteArray) (w : World) (hs : s.size ≤ 210) :
    Calls Try.prog 35 #[.string s] w fun e w' => e = .returned (.tuple #[.int .i64 ((chk s).1 : Nat), .int .i64 ((chk s).2 : Nat)]) ∧ Below w.heap.size w w' := by
  go_enter Try.func35, Try.ntmps35
  go_wp2_with fail
  refine (states_any s _ hs).mono ?_
  rintro e w1 ⟨hbel, ⟨hr, v, rfl, hown⟩ | ⟨hr, rfl⟩⟩
  · obtain ⟨acc, HA⟩ : ∃ acc, Hid (acc = (run s 6 0).2.2) := ⟨_, rfl⟩
    rw [← HA.out] at hown
    have hst := run_starts s 6 0 (by omega)
    rw [← HA.out] at hst
    obtain ⟨hlen, hst⟩ := hst
    have HR : Hid ((run s 6 0).1 = true) := hr
    clear hr
    obtain ⟨a, cap, hv⟩ : ∃ a cap, v = .slice a acc.length cap := by
      rcases hown.2 with ⟨h1, h2⟩ | ⟨g, cap, cur, h1, _⟩
      · exact ⟨none, 0, by rw [h1, h2]⟩
      · exact ⟨_, _, h1⟩
    rw [hv] at hown ⊢
    clear hv
    go_wp2_with fail
    go_loop [6] (fun q => ∃ i : Nat, i ≤ acc.length ∧ q = .int .i64 i ∧ Hid (firstBad s acc.length 0 acc = firstBad s acc.length i (acc.drop i))) (fun q => acc.length - (intOf q).toNat)
    case atStart => exact ⟨0, by omega, rfl, rfl⟩
    case round =>
      obtain ⟨i, hi, rfl, HF⟩ := hrel
      by_cases hlt : i < acc.length
      · obtain ⟨g, cap2, hv2, hg, hgl⟩ := hown.form (by omega)
        have hpi : acc[i]? = some acc[i] := List.getElem?_eq_getElem hlt
        obtain ⟨p, hp⟩ : ∃ p, acc[i]? = some p := ⟨_, hpi⟩
        have hcell := hown.cells (g := g) (by rw [hv2]; rfl) (i * 2 + 1) _ (flat_get s p acc i hp)
        simp only [Value.slice.injEq] at hv2
        obtain ⟨rfl, _, rfl⟩ := hv2
        have hq := hst p (List.mem_of_getElem? hp)
        obtain ⟨T, HT⟩ : ∃ T, Hid (T = s.extract (arrow s p + 1) (stop s p)) := ⟨_, rfl⟩
        rw [← HT.out] at hcell
        have hc1 : w1.cell? ⟨g, i * 2 + 1, none⟩ = some (.string T) := by simpa [Addr.add] using hcell
        have hTs : T.size = many s p := by
          rw [HT.out, ByteArray.size_extract]
          have := many_stop s p
          omega
        have HTb : Hid (∀ k (h : k < T.size), T[k].toNat = byteAt s (arrow s p + 1 + k)) := extract_get' s T _ _ HT.out
        clear hcell
        go_wp2_with fail
        go_loop [7] (fun q => ∃ k : Nat, k ≤ many s p ∧ q = .int .i64 k ∧ Hid (∀ j, j < k → ¬ acc.length + 48 ≤ byteAt s (arrow s p + 1 + j))) (fun q => many s p - (intOf q).toNat)
        case atStart => exact ⟨0, by omega, rfl, fun j hj => by omega⟩
        case round =>
          obtain ⟨k, hk, rfl, HN⟩ := hrel
          by_cases hkl : k < many s p
          · have hkT : k < T.size := by omega
            have hb := HTb.out k hkT
            obtain ⟨_, hr1, hr2⟩ := byte_range s 53 48 (arrow s p + 1) k hkl
            have hr3 : byteAt s (arrow s p + 1 + k) = s[arrow s p + 1 + k].toNat := byteAt_lt _
            have hr4 : 48 ≤ byteAt s (arrow s p + 1 + k) ∧ byteAt s (arrow s p + 1 + k) ≤ 53 := by omega
            obtain ⟨B, HB⟩ : ∃ B, Hid (B = byteAt s (arrow s p + 1 + k)) := ⟨_, rfl⟩
            rw [← HB.out] at hb hr4
            clear hr1 hr2 hr3
            by_cases hbad : (acc.length : Int) ≤ (B : Int) - 48
            · go_wp2_with fail
              go_ret2
              exact ⟨by rw [chk_bad HR.out (by rw [← HA.out]; exact firstBad_yes hp HF.out (astB_yes hkl (by rw [← HB.out]; omega)))]; rfl, hbel⟩
            · go_wp2_with fail
              go_round
              case rel =>
                refine ⟨k + 1, by omega, by go_num, ?_⟩
                intro j hj
                by_cases e : j = k
                · subst e; rw [← HB.out]; omega
                · exact HN.out j (by omega)
              case measure => simp [intOf]; omega
          · go_wp2_with fail
            go_round
            case rel =>
              exact ⟨i + 1, by omega, by go_num, firstBad_step hp HF.out (astB_no fun j hj => HN.out j (by omega))⟩
            case measure => simp [intOf]; omega
      · go_wp2_with fail
        go_ret2
        exact ⟨by rw [chk_good HR.out (by rw [← HA.out]; exact firstBad_end (by omega) HF.out)]; rfl, hbel⟩
  · go_wp2_with fail
    go_ret2
    exact ⟨by rw [chk_fail hr]; rfl, hbel⟩

end Go.Proofs.Ytkjnhhbibaimfaa
