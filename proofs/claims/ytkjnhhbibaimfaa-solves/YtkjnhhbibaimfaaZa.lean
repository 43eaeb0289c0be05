import Derived.Test.YtkjnhhbibaimfaaXd
import Derived.Laws.IdiomStrings
namespace Go.Proofs.Ytkjnhhbibaimfaa
open Go.RowKit Fw
open Go.Deep (BT)
set_option linter.unusedVariables false

/-- a text as a string -/
def bs (l : List UInt8) : ByteArray := ⟨l.toArray⟩

def opp (c : Nat) : Nat := if c = 38 then 43 else if c = 43 then 38 else if c = 85 then 82 else if c = 82 then 85 else if c = 69 then 65 else if c = 65 then 69 else c
def tn (neg : Bool) (c : Nat) : Nat := if neg = true then opp c else c

/-- the signs that are turned -/
def isSg (c : Nat) : Prop := c = 38 ∨ c = 43 ∨ c = 85 ∨ c = 82 ∨ c = 69 ∨ c = 65

/-- P and N of the document, as texts -/
def push : Fm → Bool → List UInt8
  | .nil, _ => []
  | .node sg wy _ l r, neg =>
    if sg = 33 then push l (!neg)
    else if sg = 38 ∨ sg = 43 then 40 :: (push l neg ++ b8 (tn neg sg) :: (push r neg ++ [41]))
    else if sg = 88 then b8 (tn neg wy) :: 88 :: push l neg
    else if sg = 85 ∨ sg = 82 then b8 (tn neg wy) :: 91 :: (push l neg ++ b8 (tn neg sg) :: (push r neg ++ [93]))
    else if neg = true then [33, b8 sg] else [b8 sg]

theorem enc128 : ∀ c : Fin 128, Utf8.encode ((c.val : Nat) : Int) = bs [b8 c.val] := by decide +kernel
theorem enc_of (c : Nat) (h : c < 128) : Utf8.encode (c : Int) = bs [b8 c] := enc128 ⟨c, h⟩

theorem ret_str {a b : ByteArray} (h : a = b) : Ending.returned (.string a) = .returned (.string b) := by rw [h]

theorem opposite_any (c : Nat) (h : isSg c ∨ c = 0) (w : World) : Calls Try.prog 72 #[.int .u8 (c : Int)] w fun e w' => e = .returned (.int .u8 ((opp c : Nat) : Int)) ∧ w' = w := by
  rcases h with (rfl | rfl | rfl | rfl | rfl | rfl) | rfl
  · go_enter Try.func72, Try.ntmps72
    go_wp2
    go_ret
    exact ⟨rfl, rfl⟩
  · go_enter Try.func72, Try.ntmps72
    go_wp2
    go_ret
    exact ⟨rfl, rfl⟩
  · go_enter Try.func72, Try.ntmps72
    go_wp2
    go_ret
    exact ⟨rfl, rfl⟩
  · go_enter Try.func72, Try.ntmps72
    go_wp2
    go_ret
    exact ⟨rfl, rfl⟩
  · go_enter Try.func72, Try.ntmps72
    go_wp2
    go_ret
    exact ⟨rfl, rfl⟩
  · go_enter Try.func72, Try.ntmps72
    go_wp2
    go_ret
    exact ⟨rfl, rfl⟩
  · go_enter Try.func72, Try.ntmps72
    go_wp2
    go_ret
    exact ⟨rfl, rfl⟩

theorem opp_lt {c : Nat} (h : c < 128) : opp c < 128 := by
  unfold opp
  repeat' split
  all_goals omega

theorem tn_lt {neg : Bool} {c : Nat} (h : c < 128) : tn neg c < 128 := by
  unfold tn
  split
  · exact opp_lt h
  · exact h

theorem isSg_lt {c : Nat} (h : isSg c ∨ c = 0) : c < 128 := by
  rcases h with (h | h | h | h | h | h) | h <;> omega

theorem pushedSign_any (c : Nat) (neg : Bool) (h : isSg c ∨ c = 0) (w : World) : Calls Try.prog 50 #[.int .u8 (c : Int), .bool neg] w fun e w' => e = .returned (.string (bs [b8 (tn neg c)])) ∧ w' = w := by
  have hl := isSg_lt h
  cases neg with
  | false =>
    go_enter Try.func50, Try.ntmps50
    go_wp2_with fail
    go_ret
    exact ⟨ret_str (enc_of c hl), rfl⟩
  | true =>
    have HO : Hid (opp c < 128) := opp_lt hl
    go_enter Try.func50, Try.ntmps50
    go_wp2_with fail
    refine (opposite_any c h _).mono ?_
    rintro e w1 ⟨rfl, rfl⟩
    go_wp2_with fail
    go_ret
    exact ⟨ret_str (enc_of (opp c) HO.out), rfl⟩

theorem contrary_38 (w : World) : Calls Try.prog 99 #[.int .u8 38] w fun e w' => e = .returned (.string (bs [43])) ∧ w' = w := by
  go_enter Try.func99, Try.ntmps99
  go_wp2
  go_loop [3] (fun q => ∃ k : Nat, k ≤ 4 ∧ q = .int .i64 k) (fun q => 4 - (intOf q).toNat)
  case atStart => exact ⟨0, by omega, rfl⟩
  case round =>
    obtain ⟨k, hk, rfl⟩ := hrel
    obtain rfl | rfl | rfl | rfl | rfl := (by omega : k = 0 ∨ k = 1 ∨ k = 2 ∨ k = 3 ∨ k = 4)
    · go_wp2
      go_round
      case rel => exact ⟨1, by omega, rfl⟩
      case measure => simp [intOf]
    · go_wp2
      go_round
      case rel => exact ⟨2, by omega, rfl⟩
      case measure => simp [intOf]
    · go_wp2
      go_round
      case rel => exact ⟨3, by omega, rfl⟩
      case measure => simp [intOf]
    · go_wp2
      go_round
      case rel => exact ⟨4, by omega, rfl⟩
      case measure => simp [intOf]
    · go_wp2
      go_ret
      exact ⟨rfl, rfl⟩

theorem contrary_43 (w : World) : Calls Try.prog 99 #[.int .u8 43] w fun e w' => e = .returned (.string (bs [38])) ∧ w' = w := by
  go_enter Try.func99, Try.ntmps99
  go_wp2
  go_loop [3] (fun q => ∃ k : Nat, k ≤ 5 ∧ q = .int .i64 k) (fun q => 5 - (intOf q).toNat)
  case atStart => exact ⟨0, by omega, rfl⟩
  case round =>
    obtain ⟨k, hk, rfl⟩ := hrel
    obtain rfl | rfl | rfl | rfl | rfl | rfl := (by omega : k = 0 ∨ k = 1 ∨ k = 2 ∨ k = 3 ∨ k = 4 ∨ k = 5)
    · go_wp2
      go_round
      case rel => exact ⟨1, by omega, rfl⟩
      case measure => simp [intOf]
    · go_wp2
      go_round
      case rel => exact ⟨2, by omega, rfl⟩
      case measure => simp [intOf]
    · go_wp2
      go_round
      case rel => exact ⟨3, by omega, rfl⟩
      case measure => simp [intOf]
    · go_wp2
      go_round
      case rel => exact ⟨4, by omega, rfl⟩
      case measure => simp [intOf]
    · go_wp2
      go_round
      case rel => exact ⟨5, by omega, rfl⟩
      case measure => simp [intOf]
    · go_wp2
      go_ret
      exact ⟨rfl, rfl⟩

theorem contrary_85 (w : World) : Calls Try.prog 99 #[.int .u8 85] w fun e w' => e = .returned (.string (bs [82])) ∧ w' = w := by
  go_enter Try.func99, Try.ntmps99
  go_wp2
  go_loop [3] (fun q => ∃ k : Nat, k ≤ 2 ∧ q = .int .i64 k) (fun q => 2 - (intOf q).toNat)
  case atStart => exact ⟨0, by omega, rfl⟩
  case round =>
    obtain ⟨k, hk, rfl⟩ := hrel
    obtain rfl | rfl | rfl := (by omega : k = 0 ∨ k = 1 ∨ k = 2)
    · go_wp2
      go_round
      case rel => exact ⟨1, by omega, rfl⟩
      case measure => simp [intOf]
    · go_wp2
      go_round
      case rel => exact ⟨2, by omega, rfl⟩
      case measure => simp [intOf]
    · go_wp2
      go_ret
      exact ⟨rfl, rfl⟩

theorem contrary_82 (w : World) : Calls Try.prog 99 #[.int .u8 82] w fun e w' => e = .returned (.string (bs [85])) ∧ w' = w := by
  go_enter Try.func99, Try.ntmps99
  go_wp2
  go_loop [3] (fun q => ∃ k : Nat, k ≤ 3 ∧ q = .int .i64 k) (fun q => 3 - (intOf q).toNat)
  case atStart => exact ⟨0, by omega, rfl⟩
  case round =>
    obtain ⟨k, hk, rfl⟩ := hrel
    obtain rfl | rfl | rfl | rfl := (by omega : k = 0 ∨ k = 1 ∨ k = 2 ∨ k = 3)
    · go_wp2
      go_round
      case rel => exact ⟨1, by omega, rfl⟩
      case measure => simp [intOf]
    · go_wp2
      go_round
      case rel => exact ⟨2, by omega, rfl⟩
      case measure => simp [intOf]
    · go_wp2
      go_round
      case rel => exact ⟨3, by omega, rfl⟩
      case measure => simp [intOf]
    · go_wp2
      go_ret
      exact ⟨rfl, rfl⟩

theorem contrary_69 (w : World) : Calls Try.prog 99 #[.int .u8 69] w fun e w' => e = .returned (.string (bs [65])) ∧ w' = w := by
  go_enter Try.func99, Try.ntmps99
  go_wp2
  go_loop [3] (fun q => ∃ k : Nat, k ≤ 0 ∧ q = .int .i64 k) (fun q => 0 - (intOf q).toNat)
  case atStart => exact ⟨0, by omega, rfl⟩
  case round =>
    obtain ⟨k, hk, rfl⟩ := hrel
    obtain rfl := (by omega : k = 0)
    · go_wp2
      go_ret
      exact ⟨rfl, rfl⟩

theorem contrary_65 (w : World) : Calls Try.prog 99 #[.int .u8 65] w fun e w' => e = .returned (.string (bs [69])) ∧ w' = w := by
  go_enter Try.func99, Try.ntmps99
  go_wp2
  go_loop [3] (fun q => ∃ k : Nat, k ≤ 1 ∧ q = .int .i64 k) (fun q => 1 - (intOf q).toNat)
  case atStart => exact ⟨0, by omega, rfl⟩
  case round =>
    obtain ⟨k, hk, rfl⟩ := hrel
    obtain rfl | rfl := (by omega : k = 0 ∨ k = 1)
    · go_wp2
      go_round
      case rel => exact ⟨1, by omega, rfl⟩
      case measure => simp [intOf]
    · go_wp2
      go_ret
      exact ⟨rfl, rfl⟩

theorem convert_one (c : Nat) (hc : c < 256) (w : World) : (convert 152 9 (.slice (some ⟨w.heap.size, 0, none⟩) 1 1)).run Try.prog (w.alloc (.cells #[.int .u8 (c : Int)] 5)) = .ok (.string (bs [b8 c])) (w.alloc (.cells #[.int .u8 (c : Int)] 5)) := by
  refine run_convert_bytes_back (P := Try.prog) (w.alloc (.cells #[.int .u8 (c : Int)] 5)) 152 9 5 ⟨w.heap.size, 0, none⟩ 1 [b8 c] Try.underlying152 Try.underlying5 Try.underlying9 ?_
  intro j hj
  obtain rfl : j = 0 := by simp at hj; omega
  simp [Addr.add, b8_nat hc]

set_option maxRecDepth 100000 in
theorem turned_f (c : Nat) (hc : c < 256) (w : World) : Calls Try.prog 77 #[.int .u8 (c : Int), .bool false] w fun e w' => e = .returned (.string (bs [b8 c])) ∧ Below w.heap.size w w' := by
  have hcv := convert_one c hc w
  go_enter Try.func77, Try.ntmps77
  go_wp2_with fail
  go_ret
  exact ⟨rfl, (Below.refl _ _).alloc (Nat.le_refl _) _⟩

theorem contrary_any (c : Nat) (h : isSg c) (w : World) : Calls Try.prog 99 #[.int .u8 (c : Int)] w fun e w' => e = .returned (.string (bs [b8 (opp c)])) ∧ w' = w := by
  rcases h with rfl | rfl | rfl | rfl | rfl | rfl
  · exact contrary_38 w
  · exact contrary_43 w
  · exact contrary_85 w
  · exact contrary_82 w
  · exact contrary_69 w
  · exact contrary_65 w

theorem turned_any (c : Nat) (neg : Bool) (h : isSg c) (w : World) : Calls Try.prog 77 #[.int .u8 (c : Int), .bool neg] w fun e w' => e = .returned (.string (bs [b8 (tn neg c)])) ∧ Below w.heap.size w w' := by
  cases neg with
  | false => exact turned_f c (by have := isSg_lt (.inl h); omega) w
  | true =>
    go_enter Try.func77, Try.ntmps77
    go_wp2_with fail
    refine (contrary_any c h _).mono ?_
    rintro e w1 ⟨rfl, rfl⟩
    go_wp2_with fail
    go_ret
    exact ⟨rfl, Below.refl _ _⟩

end Go.Proofs.Ytkjnhhbibaimfaa
