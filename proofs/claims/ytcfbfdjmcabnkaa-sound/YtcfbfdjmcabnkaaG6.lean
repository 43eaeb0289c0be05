import Derived.Laws.IdiomStrings
import Derived.Deep.RegionWith
import Derived.Deep.RegionHeld3
import Derived.BigRegion
import Derived.Test.YtcfbfdjmcabnkaaG4
namespace Go.Proofs.Ytcfbfdjmcabnkaa
open Go.RowKit Fw
open Go.Deep (BT)
set_option linter.unusedVariables false

/-- a text as a string -/
def bs (l : List UInt8) : ByteArray := ⟨l.toArray⟩

def opp (c : Nat) : Nat := if c = 38 then 43 else if c = 43 then 38 else if c = 85 then 82 else if c = 82 then 85 else if c = 69 then 65 else if c = 65 then 69 else c
def tn (neg : Bool) (c : Nat) : Nat := if neg = true then opp c else c

/-- the signs that are turned -/
def isSg (c : Nat) : Prop := c = 38 ∨ c = 43 ∨ c = 85 ∨ c = 82 ∨ c = 69 ∨ c = 65

/-- P and N of the document, as texts -/
def push : Fm → Bool → List UInt8
  | .nil, _ => []
  | .node sg wy _ l r, neg =>
    if sg = 33 then push l (!neg)
    else if sg = 38 ∨ sg = 43 then 40 :: (push l neg ++ b8 (tn neg sg) :: (push r neg ++ [41]))
    else if sg = 88 then b8 (tn neg wy) :: 88 :: push l neg
    else if sg = 85 ∨ sg = 82 then b8 (tn neg wy) :: 91 :: (push l neg ++ b8 (tn neg sg) :: (push r neg ++ [93]))
    else if neg = true then [33, b8 sg] else [b8 sg]

theorem enc128 : ∀ c : Fin 128, Utf8.encode ((c.val : Nat) : Int) = bs [b8 c.val] := by decide +kernel
theorem enc_of (c : Nat) (h : c < 128) : Utf8.encode (c : Int) = bs [b8 c] := enc128 ⟨c, h⟩

theorem ret_str {a b : ByteArray} (h : a = b) : Ending.returned (.string a) = .returned (.string b) := by rw [h]

theorem opposite_any (c : Nat) (h : isSg c ∨ c = 0) (w : World) : Calls Try.prog 55 #[.int .u8 (c : Int)] w fun e w' => e = .returned (.int .u8 ((opp c : Nat) : Int)) ∧ w' = w := by
  rcases h with (rfl | rfl | rfl | rfl | rfl | rfl) | rfl
  · go_enter Try.func55, Try.ntmps55
    go_wp2
    go_ret
    exact ⟨rfl, rfl⟩
  · go_enter Try.func55, Try.ntmps55
    go_wp2
    go_ret
    exact ⟨rfl, rfl⟩
  · go_enter Try.func55, Try.ntmps55
    go_wp2
    go_ret
    exact ⟨rfl, rfl⟩
  · go_enter Try.func55, Try.ntmps55
    go_wp2
    go_ret
    exact ⟨rfl, rfl⟩
  · go_enter Try.func55, Try.ntmps55
    go_wp2
    go_ret
    exact ⟨rfl, rfl⟩
  · go_enter Try.func55, Try.ntmps55
    go_wp2
    go_ret
    exact ⟨rfl, rfl⟩
  · go_enter Try.func55, Try.ntmps55
    go_wp2
    go_ret
    exact ⟨rfl, rfl⟩

theorem opp_lt {c : Nat} (h : c < 128) : opp c < 128 := by
  unfold opp
  repeat' split
  all_goals omega

theorem tn_lt {neg : Bool} {c : Nat} (h : c < 128) : tn neg c < 128 := by
  unfold tn
  split
  · exact opp_lt h
  · exact h

theorem isSg_lt {c : Nat} (h : isSg c ∨ c = 0) : c < 128 := by
  rcases h with (h | h | h | h | h | h) | h <;> omega

end Go.Proofs.Ytcfbfdjmcabnkaa

namespace Go.Proofs.Ytcfbfdjmcabnkaa
open Go.RowKit Fw
open Go.Deep (BT)
set_option linter.unusedVariables false

theorem bs_size (l : List UInt8) : (bs l).size = l.length := by simp [bs, ByteArray.size]
theorem bs_list (l : List UInt8) : (bs l).data.toList = l := by simp [bs]
theorem bs_add (a b : List UInt8) : bs a ++ bs b = bs (a ++ b) := by
  apply bytes_ext
  rw [ByteArray.data_append, Array.toList_append, bs_list, bs_list, bs_list]
theorem lit_bs (l : List UInt8) : (⟨l.toArray⟩ : ByteArray) = bs l := rfl

theorem push_not (l : Fm) (wy : Nat) (neg : Bool) : push (.node 33 wy () l .nil) neg = push l (!neg) := by simp [push]
theorem push_bin {sg : Nat} (h : sg = 38 ∨ sg = 43) (wy : Nat) (l r : Fm) (neg : Bool) : push (.node sg wy () l r) neg = 40 :: (push l neg ++ b8 (tn neg sg) :: (push r neg ++ [41])) := by
  rw [push, if_neg (by omega), if_pos h]
theorem push_x (wy : Nat) (l : Fm) (neg : Bool) : push (.node 88 wy () l .nil) neg = b8 (tn neg wy) :: 88 :: push l neg := by simp [push]
theorem push_way {sg : Nat} (h : sg = 85 ∨ sg = 82) (wy : Nat) (l r : Fm) (neg : Bool) : push (.node sg wy () l r) neg = b8 (tn neg wy) :: 91 :: (push l neg ++ b8 (tn neg sg) :: (push r neg ++ [93])) := by
  rw [push, if_neg (by omega), if_neg (by omega), if_neg (by omega), if_pos h]
theorem push_atom {c : Nat} (h : isAtom c = true) (neg : Bool) : push (.node c 0 () .nil .nil) neg = if neg = true then [33, b8 c] else [b8 c] := by
  simp only [isAtom, decide_eq_true_eq] at h
  rw [push, if_neg (by omega), if_neg (by omega), if_neg (by omega), if_neg (by omega)]

theorem push_len : ∀ (t : Fm), good t → ∀ neg, (push t neg).length ≤ 2 * (txt t).length := by
  intro t
  induction t with
  | nil => intro h; exact absurd h (by simp [good])
  | node sg wy u l r ihl ihr =>
    intro h neg
    rcases good_cases h with ⟨c, e, hc, ht⟩ | ⟨x, e, hx, ht⟩ | ⟨s, x, y, e, hs, hx, hy, ht⟩ | ⟨v, x, e, hv, hx, ht⟩ | ⟨s, v, x, y, e, hs, hv, hx, hy, ht⟩
    · rw [ht, e, push_atom hc]; split <;> simp
    · rw [ht]
      injection e with e3 e0 _ e1 e2
      subst e3 e0 e1 e2
      have := ihl hx (!neg)
      rw [push_not]
      simp
      omega
    · rw [ht]
      injection e with e3 e0 _ e1 e2
      subst e3 e0 e1 e2
      have := ihl hx neg
      have := ihr hy neg
      rw [push_bin hs]
      simp
      omega
    · rw [ht]
      injection e with e3 e0 _ e1 e2
      subst e3 e0 e1 e2
      have := ihl hx neg
      rw [push_x]
      simp
      omega
    · rw [ht]
      injection e with e3 e0 _ e1 e2
      subst e3 e0 e1 e2
      have := ihl hx neg
      have := ihr hy neg
      rw [push_way hs]
      simp
      omega

theorem at_mid {s : ByteArray} {p x y : List UInt8} {c : UInt8} (h : s.data.toList = p ++ (x ++ c :: y)) (hl : p.length + x.length < s.size) : s[p.length + x.length].toNat = c.toNat := by
  have e : s[p.length + x.length] = c := by
    have : s.data.toList[p.length + x.length]'(by simpa using hl) = c := by
      simp only [h]
      rw [List.getElem_append_right (by omega)]
      simp
    exact this
  rw [e]
theorem at_mid1 {s : ByteArray} {x y : List UInt8} {c d : UInt8} (h : s.data.toList = d :: (x ++ c :: y)) (m : Nat) (hm : m = 1 + x.length) (hl : m < s.size) : s[m].toNat = c.toNat := by
  subst hm
  exact at_mid (p := [d]) h hl
theorem at_mid2 {s : ByteArray} {x y : List UInt8} {c d e : UInt8} (h : s.data.toList = d :: e :: (x ++ c :: y)) (m : Nat) (hm : m = 2 + x.length) (hl : m < s.size) : s[m].toNat = c.toNat := by
  subst hm
  exact at_mid (p := [d, e]) h hl

end Go.Proofs.Ytcfbfdjmcabnkaa

namespace Go.Proofs.Ytcfbfdjmcabnkaa
open Go.RowKit Fw
open Go.Deep (BT)
set_option linter.unusedVariables false

/-- a sum of two strings, whatever the world -/
def Sum (a b c : ByteArray) : Prop := ∀ w : World, (Op.stringOp .add a b).run Try.prog w = .ok (.string c) w

theorem sum_of {a b c : ByteArray} (h : a.size + b.size ≤ 10000) (hc : a ++ b = c) : Sum a b c := by
  intro w
  rw [run_string_add_sum w a b (by omega), hc]

end Go.Proofs.Ytcfbfdjmcabnkaa

namespace Go.Proofs.Ytcfbfdjmcabnkaa
open Go.RowKit Fw
open Go.Deep (BT)
set_option linter.unusedVariables false

end Go.Proofs.Ytcfbfdjmcabnkaa

namespace Go.Proofs.Ytcfbfdjmcabnkaa
open Go.RowKit Fw
open Go.Deep (BT)
set_option linter.unusedVariables false

theorem sum_bs {a b c : List UInt8} (h : a.length + b.length ≤ 10000) (hc : a ++ b = c) : Sum (bs a) (bs b) (bs c) := by
  refine sum_of (by rw [bs_size, bs_size]; exact h) ?_
  rw [bs_add, hc]

theorem way_facts {c0 : Nat} (h : c0 = 69 ∨ c0 = 65) : ((c0 : Int) == 33) = false ∧ ((c0 : Int) == 40) = false ∧ (((c0 : Int) != 69) = false ∨ (((c0 : Int) != 69) = true ∧ ((c0 : Int) != 65) = false)) := by
  rcases h with rfl | rfl <;> decide

end Go.Proofs.Ytcfbfdjmcabnkaa

