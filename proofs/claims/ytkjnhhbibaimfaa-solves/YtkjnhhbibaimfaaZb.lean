import Derived.Test.YtkjnhhbibaimfaaZa
import Derived.Deep.RegionWith
import Derived.Deep.RegionHeld3
import Derived.BigRegion
namespace Go.Proofs.Ytkjnhhbibaimfaa
open Go.RowKit Fw
open Go.Deep (BT)
set_option linter.unusedVariables false

theorem bs_size (l : List UInt8) : (bs l).size = l.length := by simp [bs, ByteArray.size]
theorem bs_list (l : List UInt8) : (bs l).data.toList = l := by simp [bs]
theorem bs_add (a b : List UInt8) : bs a ++ bs b = bs (a ++ b) := by
  apply bytes_ext
  rw [ByteArray.data_append, Array.toList_append, bs_list, bs_list, bs_list]
theorem lit_bs (l : List UInt8) : (⟨l.toArray⟩ : ByteArray) = bs l := rfl

theorem push_not (l : Fm) (wy : Nat) (neg : Bool) : push (.node 33 wy () l .nil) neg = push l (!neg) := by simp [push]
theorem push_bin {sg : Nat} (h : sg = 38 ∨ sg = 43) (wy : Nat) (l r : Fm) (neg : Bool) : push (.node sg wy () l r) neg = 40 :: (push l neg ++ b8 (tn neg sg) :: (push r neg ++ [41])) := by
  rw [push, if_neg (by omega), if_pos h]
theorem push_x (wy : Nat) (l : Fm) (neg : Bool) : push (.node 88 wy () l .nil) neg = b8 (tn neg wy) :: 88 :: push l neg := by simp [push]
theorem push_way {sg : Nat} (h : sg = 85 ∨ sg = 82) (wy : Nat) (l r : Fm) (neg : Bool) : push (.node sg wy () l r) neg = b8 (tn neg wy) :: 91 :: (push l neg ++ b8 (tn neg sg) :: (push r neg ++ [93])) := by
  rw [push, if_neg (by omega), if_neg (by omega), if_neg (by omega), if_pos h]
theorem push_atom {c : Nat} (h : isAtom c = true) (neg : Bool) : push (.node c 0 () .nil .nil) neg = if neg = true then [33, b8 c] else [b8 c] := by
  simp only [isAtom, decide_eq_true_eq] at h
  rw [push, if_neg (by omega), if_neg (by omega), if_neg (by omega), if_neg (by omega)]

theorem push_len : ∀ (t : Fm), good t → ∀ neg, (push t neg).length ≤ 2 * (txt t).length := by
  intro t
  induction t with
  | nil => intro h; exact absurd h (by simp [good])
  | node sg wy u l r ihl ihr =>
    intro h neg
    rcases good_cases h with ⟨c, e, hc, ht⟩ | ⟨x, e, hx, ht⟩ | ⟨s, x, y, e, hs, hx, hy, ht⟩ | ⟨v, x, e, hv, hx, ht⟩ | ⟨s, v, x, y, e, hs, hv, hx, hy, ht⟩
    · rw [ht, e, push_atom hc]; split <;> simp
    · rw [ht]
      injection e with e3 e0 _ e1 e2
      subst e3 e0 e1 e2
      have := ihl hx (!neg)
      rw [push_not]
      simp
      omega
    · rw [ht]
      injection e with e3 e0 _ e1 e2
      subst e3 e0 e1 e2
      have := ihl hx neg
      have := ihr hy neg
      rw [push_bin hs]
      simp
      omega
    · rw [ht]
      injection e with e3 e0 _ e1 e2
      subst e3 e0 e1 e2
      have := ihl hx neg
      rw [push_x]
      simp
      omega
    · rw [ht]
      injection e with e3 e0 _ e1 e2
      subst e3 e0 e1 e2
      have := ihl hx neg
      have := ihr hy neg
      rw [push_way hs]
      simp
      omega

theorem at_mid {s : ByteArray} {p x y : List UInt8} {c : UInt8} (h : s.data.toList = p ++ (x ++ c :: y)) (hl : p.length + x.length < s.size) : s[p.length + x.length].toNat = c.toNat := by
  have e : s[p.length + x.length] = c := by
    have : s.data.toList[p.length + x.length]'(by simpa using hl) = c := by
      simp only [h]
      rw [List.getElem_append_right (by omega)]
      simp
    exact this
  rw [e]
theorem at_mid1 {s : ByteArray} {x y : List UInt8} {c d : UInt8} (h : s.data.toList = d :: (x ++ c :: y)) (m : Nat) (hm : m = 1 + x.length) (hl : m < s.size) : s[m].toNat = c.toNat := by
  subst hm
  exact at_mid (p := [d]) h hl
theorem at_mid2 {s : ByteArray} {x y : List UInt8} {c d e : UInt8} (h : s.data.toList = d :: e :: (x ++ c :: y)) (m : Nat) (hm : m = 2 + x.length) (hl : m < s.size) : s[m].toNat = c.toNat := by
  subst hm
  exact at_mid (p := [d, e]) h hl

/-- what the reference's pushed is to tell of a formula's text -/
def PushAt (t : Fm) : Prop := ∀ (neg : Bool) (s : ByteArray) (w : World), s.data.toList = txt t → s.size ≤ 60 →
  Calls Try.prog 55 #[.string s, .bool neg] w fun e w' => e = .returned (.string (bs (push t neg))) ∧ Below w.heap.size w w'

set_option maxRecDepth 100000 in
set_option maxHeartbeats 1000000 in
theorem pushed_atom (c : Nat) (hc : isAtom c = true) : PushAt (.node c 0 () .nil .nil) := by
  intro neg s w h hs
  rw [txt_atom hc] at h
  have hsz := size_of h
  have hp : 0 < s.size := by rw [hsz]; simp
  have h0 : s[0].toNat = c := by rw [at0 h hp, b8_nat (isAtom_lt hc)]
  have HP : Hid (push (.node c 0 () .nil .nil) neg = if neg = true then [33, b8 c] else [b8 c]) := push_atom hc neg
  have HS : Hid (s.data.toList = [b8 c]) := h
  simp only [isAtom, decide_eq_true_eq] at hc
  have b1 : ((c : Int) == 33) = false := by rw [beq_eq_false_iff_ne]; omega
  have b2 : ((c : Int) == 40) = false := by rw [beq_eq_false_iff_ne]; omega
  have b3 : ((c : Int) != 69) = true := by rw [bne_iff_ne]; omega
  have b4 : ((c : Int) != 65) = true := by rw [bne_iff_ne]; omega
  clear hc h hsz
  cases neg with
  | true =>
    go_enter Try.func55, Try.ntmps55
    go_wp2_with fail
    go_ret
    refine ⟨ret_str ?_, Below.refl _ _⟩
    rw [HP.out]
    apply bytes_ext
    rw [ByteArray.data_append, Array.toList_append, HS.out, bs_list]
    rfl
  | false =>
    go_enter Try.func55, Try.ntmps55
    go_wp2_with fail
    go_ret
    refine ⟨ret_str ?_, Below.refl _ _⟩
    rw [HP.out]
    apply bytes_ext
    rw [HS.out, bs_list]
    rfl

set_option maxRecDepth 100000 in
set_option maxHeartbeats 1000000 in
theorem pushed_not (l : Fm) (ih : PushAt l) : PushAt (.node 33 0 () l .nil) := by
  intro neg s w h hs
  rw [txt_one33] at h
  have hsz := size_of h
  simp only [List.length_cons] at hsz
  have hp : 1 ≤ s.size := by omega
  have h0' : s[0].toNat = 33 := at0 h hp
  have HX : Hid ((s.extract 1 s.size).data.toList = txt l) := ext_tail1 h
  have HZ : Hid ((s.extract 1 s.size).size ≤ 60) := by show _ ≤ _; rw [ByteArray.size_extract]; omega
  rw [push_not]
  clear h hsz
  go_enter Try.func55, Try.ntmps55
  go_wp2_with fail
  refine (ih _ _ _ HX.out HZ.out).mono ?_
  rintro e w1 ⟨rfl, hb⟩
  go_wp2_with fail
  go_ret
  exact ⟨rfl, hb⟩

end Go.Proofs.Ytkjnhhbibaimfaa
