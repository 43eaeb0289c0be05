import Derived.Test.YtkjnhhbibaimfaaXb
import Derived.BigQuiet
import Derived.Deep.RegionWith
namespace Go.Proofs.Ytkjnhhbibaimfaa
open Go.RowKit Fw
open Go.Deep (BT)
set_option linter.unusedVariables false

theorem size_of {s : ByteArray} {l : List UInt8} (h : s.data.toList = l) : s.size = l.length := by
  rw [← h]
  show s.data.size = _
  rw [Array.length_toList]

theorem at0 {s : ByteArray} {c : UInt8} {r : List UInt8} (h : s.data.toList = c :: r) (h0 : 0 < s.size) : s[0].toNat = c.toNat := by
  have e : s[0] = c := by
    have : s.data.toList[0]'(by simpa using h0) = c := by simp [h]
    exact this
  rw [e]

theorem at1 {s : ByteArray} {c d : UInt8} {r : List UInt8} (h : s.data.toList = c :: d :: r) (h0 : 1 < s.size) : s[1].toNat = d.toNat := by
  have e : s[1] = d := by
    have : s.data.toList[1]'(by simpa using h0) = d := by simp [h]
    exact this
  rw [e]

theorem ext_tail1 {s : ByteArray} {c : UInt8} {r : List UInt8} (h : s.data.toList = c :: r) : (s.extract 1 s.size).data.toList = r := by
  rw [Lib.extract_data, h, size_of h]
  simp

theorem ext_tail2 {s : ByteArray} {c d : UInt8} {r : List UInt8} (h : s.data.toList = c :: d :: r) : (s.extract 2 s.size).data.toList = r := by
  rw [Lib.extract_data, h, size_of h]
  simp

/-- the two parts between brackets -/
theorem ext_left {s : ByteArray} {p x y z : List UInt8} {c : UInt8} (h : s.data.toList = p ++ (x ++ c :: (y ++ z))) : (s.extract p.length (p.length + x.length)).data.toList = x := by
  rw [Lib.extract_data, h]
  simp

theorem ext_right {s : ByteArray} {p x y : List UInt8} {c d : UInt8} (h : s.data.toList = p ++ (x ++ c :: (y ++ [d]))) : (s.extract (p.length + x.length + 1) (s.size - 1)).data.toList = y := by
  rw [Lib.extract_data, h, size_of h]
  have e : p ++ (x ++ c :: (y ++ [d])) = (p ++ x ++ [c]) ++ (y ++ [d]) := by simp
  rw [e, List.drop_left' (by simp; omega)]
  simp only [List.length_append, List.length_cons, List.length_nil]
  rw [show p.length + x.length + (0 + 1) + (y.length + (0 + 1)) - 1 - (p.length + x.length + 1) = y.length from by omega]
  simp

/-- where End comes to, behind p, at a formula with more behind it -/
theorem end_at {s : ByteArray} {p r : List UInt8} {t : Fm} (h : s.data.toList = p ++ (txt t ++ r)) (hg : good t) : s.size - (auto [102] (tl s p.length)).2.length = p.length + (txt t).length := by
  have e : tl s p.length = txt t ++ r := by
    unfold tl
    rw [h, List.drop_left]
  rw [e, auto_txt t hg, auto_nil, size_of h]
  simp
  omega

theorem end_at1 {s : ByteArray} {c : UInt8} {r : List UInt8} {t : Fm} (h : s.data.toList = c :: (txt t ++ r)) (hg : good t) : s.size - (auto [102] (tl s 1)).2.length = 1 + (txt t).length := by
  have := end_at (p := [c]) h hg
  rw [show [c].length = 1 from rfl] at this
  exact this
theorem end_at2 {s : ByteArray} {c d : UInt8} {r : List UInt8} {t : Fm} (h : s.data.toList = c :: d :: (txt t ++ r)) (hg : good t) : s.size - (auto [102] (tl s 2)).2.length = 2 + (txt t).length := by
  have := end_at (p := [c, d]) h hg
  rw [show [c, d].length = 2 from rfl] at this
  exact this
theorem ext_left1 {s : ByteArray} {x y z : List UInt8} {c d : UInt8} (h : s.data.toList = d :: (x ++ c :: (y ++ z))) : (s.extract 1 (1 + x.length)).data.toList = x := by
  have := ext_left (p := [d]) h
  rw [show [d].length = 1 from rfl] at this
  exact this
theorem ext_left2 {s : ByteArray} {x y z : List UInt8} {c d e : UInt8} (h : s.data.toList = d :: e :: (x ++ c :: (y ++ z))) : (s.extract 2 (2 + x.length)).data.toList = x := by
  have := ext_left (p := [d, e]) h
  rw [show [d, e].length = 2 from rfl] at this
  exact this
theorem ext_right1 {s : ByteArray} {x y : List UInt8} {c d e : UInt8} (h : s.data.toList = e :: (x ++ c :: (y ++ [d]))) : (s.extract (1 + x.length + 1) (s.size - 1)).data.toList = y := by
  have := ext_right (p := [e]) h
  rw [show [e].length = 1 from rfl] at this
  exact this
theorem ext_right2 {s : ByteArray} {x y : List UInt8} {c d e f : UInt8} (h : s.data.toList = e :: f :: (x ++ c :: (y ++ [d]))) : (s.extract (2 + x.length + 1) (s.size - 1)).data.toList = y := by
  have := ext_right (p := [e, f]) h
  rw [show [e, f].length = 2 from rfl] at this
  exact this

theorem i64_add1 (m : Nat) (h : m ≤ 1000) : IntKind.i64.wrap ((m : Int) + 1) = ((m + 1 : Nat) : Int) := by
  rw [IntKind.wrap_i64]; omega
theorem i64_sub1 (m : Nat) (h0 : 0 < m) (h : m ≤ 1000) : IntKind.i64.wrap ((m : Int) - 1) = ((m - 1 : Nat) : Int) := by
  rw [IntKind.wrap_i64]; omega

theorem end_1 (s : ByteArray) (w : World) (hs : s.size ≤ 60) (hp : 1 ≤ s.size) :
    Calls Try.prog 75 #[.string s, .int .i64 1] w fun e w' => e = .returned (.int .i64 ((s.size - (auto [102] (tl s 1)).2.length : Nat) : Int)) ∧ w' = w := end_any s 1 w hs hp
theorem end_2 (s : ByteArray) (w : World) (hs : s.size ≤ 60) (hp : 2 ≤ s.size) :
    Calls Try.prog 75 #[.string s, .int .i64 2] w fun e w' => e = .returned (.int .i64 ((s.size - (auto [102] (tl s 2)).2.length : Nat) : Int)) ∧ w' = w := end_any s 2 w hs hp

/-- what nest is to tell of a formula's text -/
def NestAt (t : Fm) : Prop := ∀ (s : ByteArray) (w : World), s.data.toList = txt t → s.size ≤ 60 →
  Calls Try.prog 54 #[.string s] w fun e w' => e = .returned (.int .i64 ((nst t : Nat) : Int)) ∧ ∃ n, w' = w.drewN n

set_option maxRecDepth 100000 in
set_option maxHeartbeats 1000000 in
theorem nest_atom (c : Nat) (hc : isAtom c = true) : NestAt (.node c 0 () .nil .nil) := by
  intro s w h hs
  rw [txt_atom hc] at h
  have hsz := size_of h
  have hp : 0 < s.size := by rw [hsz]; simp
  have h0 : s[0].toNat = c := by rw [at0 h hp, b8_nat (isAtom_lt hc)]
  simp only [isAtom, decide_eq_true_eq] at hc
  simp only [List.length_cons, List.length_nil] at hsz
  have b1 : ((c : Int) == 33) = false := by rw [beq_eq_false_iff_ne]; omega
  have b2 : ((c : Int) == 40) = false := by rw [beq_eq_false_iff_ne]; omega
  have b3 : ((c : Int) != 69) = true := by rw [bne_iff_ne]; omega
  have b4 : ((c : Int) != 65) = true := by rw [bne_iff_ne]; omega
  clear hc h hsz
  go_enter Try.func54, Try.ntmps54
  go_wp2_with fail
  go_ret
  exact ⟨rfl, 0, rfl⟩

set_option maxRecDepth 100000 in
set_option maxHeartbeats 1000000 in
theorem nest_not (l : Fm) (ih : NestAt l) : NestAt (.node 33 0 () l .nil) := by
  intro s w h hs
  rw [txt_one33] at h
  have hsz := size_of h
  simp only [List.length_cons] at hsz
  have hp : 1 ≤ s.size := by omega
  have h0' : s[0].toNat = 33 := at0 h hp
  have HX : Hid ((s.extract 1 s.size).data.toList = txt l) := ext_tail1 h
  have HZ : Hid ((s.extract 1 s.size).size ≤ 60) := by show _ ≤ _; rw [ByteArray.size_extract]; omega
  clear h hsz
  go_enter Try.func54, Try.ntmps54
  go_wp2_with fail
  refine (ih _ _ HX.out HZ.out).mono ?_
  rintro e w1 ⟨rfl, n, rfl⟩
  go_wp2_with fail
  go_ret
  exact ⟨ret_int (by simp [nst]), n, rfl⟩

end Go.Proofs.Ytkjnhhbibaimfaa
