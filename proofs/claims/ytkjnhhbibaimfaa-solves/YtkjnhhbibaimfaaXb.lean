import Derived.Test.YtkjnhhbibaimfaaXa
namespace Go.Proofs.Ytkjnhhbibaimfaa
open Go.RowKit Fw
set_option linter.unusedVariables false

def okSt (st : List Nat) : Prop := ∀ x ∈ st, okTop x

theorem okSt_start : okSt [102] := by
  intro x hx
  simp at hx
  exact .inl hx

theorem okSt_fol {top : Nat} {st st' : List Nat} {c : Nat} (h : okSt (top :: st)) (hf : fol top st c = some st') : okSt st' ∧ st'.length ≤ (top :: st).length + 3 := by
  have hs : okSt st := fun x hx => h x (List.mem_cons_of_mem _ hx)
  have key : ∀ l : List Nat, (∀ x ∈ l, okTop x) → l.length ≤ 4 → st' = l ++ st → okSt st' ∧ st'.length ≤ (top :: st).length + 3 := by
    intro l hl hn e
    subst e
    refine ⟨fun x hx => ?_, by simp; omega⟩
    rcases List.mem_append.1 hx with h1 | h1
    · exact hl x h1
    · exact hs x h1
  unfold fol at hf
  split at hf
  · split at hf
    · injection hf with e; exact key [] (by simp) (by simp) e.symm
    · split at hf
      · injection hf with e; exact key [102] (by intro x hx; simp at hx; subst hx; simp [okTop]) (by simp) e.symm
      · split at hf
        · injection hf with e; exact key [102, 111, 102, 41] (by intro x hx; simp at hx; rcases hx with rfl | rfl | rfl | rfl <;> simp [okTop]) (by simp) e.symm
        · split at hf
          · injection hf with e; exact key [119] (by intro x hx; simp at hx; subst hx; simp [okTop]) (by simp) e.symm
          · simp at hf
  · split at hf
    · split at hf
      · injection hf with e; exact key [] (by simp) (by simp) e.symm
      · simp at hf
    · split at hf
      · split at hf
        · injection hf with e; exact key [] (by simp) (by simp) e.symm
        · simp at hf
      · split at hf
        · split at hf
          · injection hf with e; exact key [102, 117, 102, 93] (by intro x hx; simp at hx; rcases hx with rfl | rfl | rfl | rfl <;> simp [okTop]) (by simp) e.symm
          · split at hf
            · injection hf with e; exact key [102] (by intro x hx; simp at hx; subst hx; simp [okTop]) (by simp) e.symm
            · simp at hf
        · split at hf
          · injection hf with e; exact key [] (by simp) (by simp) e.symm
          · simp at hf

theorem step_yes {s : ByteArray} {k top : Nat} {st st' : List Nat} {R : List Nat × List UInt8} (hk : k < s.size) (hf : fol top st s[k].toNat = some st') (h : auto (top :: st) (tl s k) = R) : auto st' (tl s (k + 1)) = R := by
  rw [tl_cons s k hk, auto_yes hf] at h
  exact h
theorem step_no {s : ByteArray} {k top : Nat} {st : List Nat} {R : List Nat × List UInt8} (hk : k < s.size) (hf : fol top st s[k].toNat = none) (h : auto (top :: st) (tl s k) = R) : R = (top :: st, tl s k) := by
  rw [← h, tl_cons s k hk, auto_no hf]
theorem step_empty {s : ByteArray} {k : Nat} {R : List Nat × List UInt8} (h : auto [] (tl s k) = R) : R = ([], tl s k) := by
  rw [← h, auto_nil]
theorem step_end {s : ByteArray} {k : Nat} {st : List Nat} {R : List Nat × List UInt8} (hk : s.size ≤ k) (h : auto st (tl s k) = R) : R = (st, []) := by
  rw [← h, tl_nil s k hk, auto_end]

/-- where the stack's way ends -/
def placeOf (s : ByteArray) : Int := if (auto [102] (tl s 0)).1 = [] ∧ (auto [102] (tl s 0)).2 = [] then -1 else ((s.size - (auto [102] (tl s 0)).2.length : Nat) : Int)

theorem placeOf_rest {s : ByteArray} {k : Nat} {st : List Nat} (hk : k < s.size) (h : auto [102] (tl s 0) = (st, tl s k)) : placeOf s = (k : Int) := by
  unfold placeOf
  rw [h]
  have hl := tl_length s k
  rw [if_neg (by rintro ⟨_, h2⟩; simp only at h2; rw [h2] at hl; simp at hl; omega)]
  simp only [hl]
  omega
theorem placeOf_short {s : ByteArray} {st : List Nat} (hs : st ≠ []) (h : auto [102] (tl s 0) = (st, [])) : placeOf s = (s.size : Int) := by
  unfold placeOf
  rw [h, if_neg (by rintro ⟨h1, _⟩; exact hs h1)]
  simp
theorem placeOf_good {s : ByteArray} (h : auto [102] (tl s 0) = ([], [])) : placeOf s = -1 := by
  unfold placeOf
  rw [h, if_pos ⟨rfl, rfl⟩]

set_option maxRecDepth 100000 in
set_option maxHeartbeats 1000000 in
theorem place_any (s : ByteArray) (w : World) (hs : s.size ≤ 60) :
    Calls Try.prog 53 #[.string s] w fun e w' => e = .returned (.int .i64 (placeOf s)) ∧ w' = w := by
  go_enter Try.func53, Try.ntmps53
  go_wp2
  go_loop [3, 4] (fun v q => ∃ (st : List Nat) (k : Nat), k ≤ s.size ∧ v = .string (sk st) ∧ q = .int .i64 k ∧ st.length ≤ 1 + 3 * k ∧ Hid (okSt st) ∧ Hid (auto st (tl s k) = auto [102] (tl s 0))) (fun _ q => s.size - (intOf q).toNat)
  case atStart => exact ⟨[102], 0, by omega, rfl, rfl, by simp, okSt_start, rfl⟩
  case round =>
    obtain ⟨st, k, hk, rfl, rfl, hlen, HO, HA⟩ := hrel
    have hem := sk_empty st
    by_cases hlt : k < s.size
    · cases st with
      | nil =>
        simp only [List.isEmpty_nil] at hem
        go_wp2_with fail
        go_ret
        exact ⟨ret_int (placeOf_rest hlt (step_empty HA.out)).symm, rfl⟩
      | cons top st =>
        simp only [List.isEmpty_cons] at hem
        go_wp2_with fail
        refine (follows_any top st _ _ (HO.out top (by simp)) (UInt8.toNat_lt _) (by simp at hlen; omega)).mono ?_
        rintro e w1 ⟨hf, rfl⟩
        cases hfo : fol top st s[k].toNat with
        | none =>
          rw [hfo] at hf
          obtain ⟨τ, rfl⟩ := hf
          have HF : Hid (fol top st s[k].toNat = none) := hfo
          clear hfo
          go_wp2_with fail
          go_ret
          exact ⟨ret_int (placeOf_rest hlt (step_no hlt HF.out HA.out)).symm, rfl⟩
        | some st' =>
          rw [hfo] at hf
          have hf' : e = .returned (.tuple #[.string (sk st'), .bool true]) := hf
          subst hf'
          have HF : Hid (fol top st s[k].toNat = some st') := hfo
          clear hfo hf
          go_wp2_with fail
          go_round
          case rel =>
            have h := okSt_fol HO.out HF.out
            exact ⟨st', k + 1, by omega, rfl, by go_num, by simp at hlen h; omega, h.1, step_yes hlt HF.out HA.out⟩
          case measure => simp [intOf]; omega
    · cases st with
      | nil =>
        simp only [List.isEmpty_nil] at hem
        go_wp2_with fail
        go_ret
        exact ⟨ret_int (placeOf_good (step_end (by omega) HA.out)).symm, rfl⟩
      | cons top st =>
        simp only [List.isEmpty_cons] at hem
        go_wp2_with fail
        go_ret
        exact ⟨ret_int (placeOf_short (by simp) (step_end (by omega) HA.out)).symm, rfl⟩

set_option maxRecDepth 100000 in
set_option maxHeartbeats 1000000 in
theorem end_any (s : ByteArray) (p : Nat) (w : World) (hs : s.size ≤ 60) (hp : p ≤ s.size) :
    Calls Try.prog 75 #[.string s, .int .i64 p] w fun e w' => e = .returned (.int .i64 ((s.size - (auto [102] (tl s p)).2.length : Nat) : Int)) ∧ w' = w := by
  go_enter Try.func75, Try.ntmps75
  go_wp2
  go_loop [1, 5] (fun q v => ∃ (st : List Nat) (k : Nat), k ≤ s.size ∧ v = .string (sk st) ∧ q = .int .i64 k ∧ st.length ≤ 1 + 3 * k ∧ Hid (okSt st) ∧ Hid (auto st (tl s k) = auto [102] (tl s p))) (fun q _ => s.size - (intOf q).toNat)
  case atStart => exact ⟨[102], p, hp, rfl, rfl, by simp, okSt_start, rfl⟩
  case round =>
    obtain ⟨st, k, hk, rfl, rfl, hlen, HO, HA⟩ := hrel
    have hem := sk_empty st
    by_cases hlt : k < s.size
    · cases st with
      | nil =>
        simp only [List.isEmpty_nil] at hem
        go_wp2_with fail
        go_ret
        exact ⟨ret_int (by rw [step_empty HA.out]; simp only [tl_length]; omega), rfl⟩
      | cons top st =>
        simp only [List.isEmpty_cons] at hem
        go_wp2_with fail
        refine (follows_any top st _ _ (HO.out top (by simp)) (UInt8.toNat_lt _) (by simp at hlen; omega)).mono ?_
        rintro e w1 ⟨hf, rfl⟩
        cases hfo : fol top st s[k].toNat with
        | none =>
          rw [hfo] at hf
          obtain ⟨τ, rfl⟩ := hf
          have HF : Hid (fol top st s[k].toNat = none) := hfo
          clear hfo
          go_wp2_with fail
          go_ret
          exact ⟨ret_int (by rw [step_no hlt HF.out HA.out]; simp only [tl_length]; omega), rfl⟩
        | some st' =>
          rw [hfo] at hf
          have hf' : e = .returned (.tuple #[.string (sk st'), .bool true]) := hf
          subst hf'
          have HF : Hid (fol top st s[k].toNat = some st') := hfo
          clear hfo hf
          go_wp2_with fail
          go_round
          case rel =>
            have h := okSt_fol HO.out HF.out
            exact ⟨st', k + 1, by omega, rfl, by go_num, by simp at hlen h; omega, h.1, step_yes hlt HF.out HA.out⟩
          case measure => simp [intOf]; omega
    · go_wp2_with fail
      go_ret
      exact ⟨ret_int (by rw [step_end (by omega) HA.out]; simp; omega), rfl⟩

theorem max_any (a b : Nat) (w : World) : Calls Try.prog 76 #[.int .i64 (a : Int), .int .i64 (b : Int)] w fun e w' => e = .returned (.int .i64 ((max a b : Nat) : Int)) ∧ w' = w := by
  by_cases h : (b : Int) < (a : Int)
  · go_enter Try.func76, Try.ntmps76
    go_wp2
    go_ret
    exact ⟨ret_int (by omega), rfl⟩
  · go_enter Try.func76, Try.ntmps76
    go_wp2
    go_ret
    exact ⟨ret_int (by omega), rfl⟩

end Go.Proofs.Ytkjnhhbibaimfaa
