import Derived.Test.YtkjnhhbibaimfaaWe
import Derived.BigRegion
namespace Go.Proofs.Ytkjnhhbibaimfaa
open Go.RowKit Fw
set_option linter.unusedVariables false

theorem astB_of_mat {s : ByteArray} {acc : List Nat} {i p k : Nat} (h : acc[i]? = some p) (n : Nat) (hn : n ≤ k) (hm : mat s acc i k = true) : astB s n p = true := by
  rw [mat_some h, List.any_eq_true] at hm
  obtain ⟨x, hx, hb⟩ := hm
  rw [beq_iff_eq] at hb
  exact astB_yes (List.mem_range.1 hx) (by omega)

theorem astB_of_none {s : ByteArray} {acc : List Nat} {i p : Nat} (h : acc[i]? = some p) (n : Nat) (hm : ∀ k, n ≤ k → k < 6 → mat s acc i k = false) : astB s n p = false := by
  refine astB_no fun x hx hb => ?_
  obtain ⟨hl, h1, h2⟩ := byte_range s 53 48 (arrow s p + 1) x hx
  rw [byteAt_lt hl] at hb
  have := hm (s[arrow s p + 1 + x].toNat - 48) (by omega) (by omega)
  rw [mat_some h, Bool.eq_false_iff] at this
  apply this
  rw [List.any_eq_true]
  refine ⟨x, List.mem_range.2 hx, ?_⟩
  rw [beq_iff_eq, byteAt_lt hl]
  omega

set_option maxRecDepth 100000 in
set_option maxHeartbeats 1000000 in
theorem astray_any (s : ByteArray) (b : Nat) (acc : List Nat) (w : World) (hlen : acc.length ≤ 6) (HG : Hid (Gr w b acc.length (mat s acc) (mrk s acc))) :
    Calls Try.prog 62 #[.pointer (some ⟨b, 0, none⟩)] w fun e w' => w' = w ∧
      ((firstBad s acc.length 0 acc = none ∧ e = .returned (.tuple #[.int .i64 0, .bool false])) ∨
       ∃ i : Nat, firstBad s acc.length 0 acc = some i ∧ e = .returned (.tuple #[.int .i64 i, .bool true])) := by
  have hcn := HG.out.cn
  go_enter Try.func62, Try.ntmps62
  go_wp2
  go_loop [4] (fun q => ∃ i : Nat, i ≤ acc.length ∧ q = .int .i64 i ∧ Hid (firstBad s acc.length 0 acc = firstBad s acc.length i (acc.drop i))) (fun q => acc.length - (intOf q).toNat)
  case atStart => exact ⟨0, by omega, rfl, rfl⟩
  case round =>
    obtain ⟨i, hi, rfl, HF⟩ := hrel
    by_cases hlt : i < acc.length
    · obtain ⟨p, HP⟩ : ∃ p, Hid (acc[i]? = some p) := ⟨_, List.getElem?_eq_getElem hlt⟩
      go_wp2_with fail
      go_loop [5] (fun q => ∃ k : Nat, acc.length ≤ k ∧ k ≤ 6 ∧ q = .int .i64 k ∧ Hid (∀ j, acc.length ≤ j → j < k → mat s acc i j = false)) (fun q => 6 - (intOf q).toNat)
      case atStart => exact ⟨acc.length, by omega, hlen, rfl, fun j h1 h2 => by omega⟩
      case round =>
        obtain ⟨k, hk1, hk2, rfl, HN⟩ := hrel
        by_cases hk : k < 6
        · have hmx := HG.out.mx i k (by omega) hk
          cases hm : mat s acc i k with
          | true =>
            rw [hm] at hmx
            have HM : Hid (mat s acc i k = true) := hm
            clear hm
            go_wp2_with fail
            go_ret2
            exact ⟨rfl, .inr ⟨i, firstBad_yes HP.out HF.out (astB_of_mat HP.out _ hk1 HM.out), rfl⟩⟩
          | false =>
            rw [hm] at hmx
            have HM : Hid (mat s acc i k = false) := hm
            clear hm
            go_wp2_with fail
            go_round
            case rel =>
              refine ⟨k + 1, by omega, by omega, by go_num, ?_⟩
              intro j h1 h2
              by_cases e : j = k
              · subst e; exact HM.out
              · exact HN.out j h1 (by omega)
            case measure => simp [intOf]; omega
        · go_wp2_with fail
          go_round
          case rel =>
            exact ⟨i + 1, by omega, by go_num, firstBad_step HP.out HF.out (astB_of_none HP.out _ fun j h1 h2 => HN.out j h1 (by omega))⟩
          case measure => simp [intOf]; omega
    · go_wp2_with fail
      go_ret2
      exact ⟨rfl, .inl ⟨firstBad_end (by omega) HF.out, rfl⟩⟩

end Go.Proofs.Ytkjnhhbibaimfaa
