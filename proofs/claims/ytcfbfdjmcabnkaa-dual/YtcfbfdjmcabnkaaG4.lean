import Derived.Lib.Strings
import Derived.BigQuiet
import Derived.Deep.RegionWith
import Derived.Test.YtcfbfdjmcabnkaaG1
import Derived.Test.YtcfbfdjmcabnkaaG2
namespace Go.Proofs.Ytcfbfdjmcabnkaa
open Go.RowKit Fw
set_option linter.unusedVariables false

/-- a stack as a string: its last entry last -/
def sk (st : List Nat) : ByteArray := ⟨((st.map b8).reverse).toArray⟩

theorem sk_size (st : List Nat) : (sk st).size = st.length := by simp [sk, ByteArray.size]

theorem sk_top (top : Nat) (st : List Nat) (ht : top < 256) (h : st.length < (sk (top :: st)).size) : (sk (top :: st))[st.length].toNat = top := by
  have e : (sk (top :: st))[st.length] = b8 top := by
    show ((((top :: st).map b8).reverse).toArray)[st.length]'_ = b8 top
    simp
  rw [e, b8_nat ht]

theorem bytes_ext {a b : ByteArray} (h : a.data.toList = b.data.toList) : a = b := by
  cases a; cases b
  simp at h
  rw [ByteArray.mk.injEq, ← Array.toList_inj]
  exact congrArg Array.toList h

theorem sk_list (st : List Nat) : (sk st).data.toList = (st.map b8).reverse := by simp [sk]

theorem sk_rest (top : Nat) (st : List Nat) : (sk (top :: st)).extract 0 st.length = sk st := by
  apply bytes_ext
  rw [Lib.extract_data, sk_list, sk_list]
  simp

theorem sk_add (l st : List Nat) (x : ByteArray) (h : x.data.toList = (l.map b8).reverse) : sk st ++ x = sk (l ++ st) := by
  apply bytes_ext
  rw [ByteArray.data_append, Array.toList_append, h, sk_list, sk_list]
  simp

theorem sk_empty (st : List Nat) : (sk st).toList.isEmpty = st.isEmpty := by
  rw [ByteArray.toList_eq, sk_list]
  cases st <;> simp

def okTop (x : Nat) : Prop := x = 102 ∨ x = 111 ∨ x = 117 ∨ x = 119 ∨ x = 41 ∨ x = 93

theorem fol_119n {c : Nat} (st : List Nat) (h1 : ¬ c = 91) (h2 : ¬ c = 88) : fol 119 st c = none := by simp [fol, h1, h2]

def folRes (o : Option (List Nat)) (e : Ending) : Prop :=
  match o with
  | some st => e = .returned (.tuple #[.string (sk st), .bool true])
  | none => ∃ τ, e = .returned (.tuple #[.string τ, .bool false])

theorem folRes_some {o : Option (List Nat)} {st : List Nat} {e : Ending} (h : o = some st) (he : e = .returned (.tuple #[.string (sk st), .bool true])) : folRes o e := by
  rw [h]; exact he
theorem folRes_none {o : Option (List Nat)} {e : Ending} (h : o = none) (τ : ByteArray) (he : e = .returned (.tuple #[.string τ, .bool false])) : folRes o e := by
  rw [h]; exact ⟨τ, he⟩
theorem ret2s {a b : ByteArray} (h : a = b) : Ending.returned (.tuple #[.string a, .bool true]) = .returned (.tuple #[.string b, .bool true]) := by rw [h]

end Go.Proofs.Ytcfbfdjmcabnkaa

namespace Go.Proofs.Ytcfbfdjmcabnkaa
open Go.RowKit Fw
set_option linter.unusedVariables false

def okSt (st : List Nat) : Prop := ∀ x ∈ st, okTop x

theorem okSt_start : okSt [102] := by
  intro x hx
  simp at hx
  exact .inl hx

theorem okSt_fol {top : Nat} {st st' : List Nat} {c : Nat} (h : okSt (top :: st)) (hf : fol top st c = some st') : okSt st' ∧ st'.length ≤ (top :: st).length + 3 := by
  have hs : okSt st := fun x hx => h x (List.mem_cons_of_mem _ hx)
  have key : ∀ l : List Nat, (∀ x ∈ l, okTop x) → l.length ≤ 4 → st' = l ++ st → okSt st' ∧ st'.length ≤ (top :: st).length + 3 := by
    intro l hl hn e
    subst e
    refine ⟨fun x hx => ?_, by simp; omega⟩
    rcases List.mem_append.1 hx with h1 | h1
    · exact hl x h1
    · exact hs x h1
  unfold fol at hf
  split at hf
  · split at hf
    · injection hf with e; exact key [] (by simp) (by simp) e.symm
    · split at hf
      · injection hf with e; exact key [102] (by intro x hx; simp at hx; subst hx; simp [okTop]) (by simp) e.symm
      · split at hf
        · injection hf with e; exact key [102, 111, 102, 41] (by intro x hx; simp at hx; rcases hx with rfl | rfl | rfl | rfl <;> simp [okTop]) (by simp) e.symm
        · split at hf
          · injection hf with e; exact key [119] (by intro x hx; simp at hx; subst hx; simp [okTop]) (by simp) e.symm
          · simp at hf
  · split at hf
    · split at hf
      · injection hf with e; exact key [] (by simp) (by simp) e.symm
      · simp at hf
    · split at hf
      · split at hf
        · injection hf with e; exact key [] (by simp) (by simp) e.symm
        · simp at hf
      · split at hf
        · split at hf
          · injection hf with e; exact key [102, 117, 102, 93] (by intro x hx; simp at hx; rcases hx with rfl | rfl | rfl | rfl <;> simp [okTop]) (by simp) e.symm
          · split at hf
            · injection hf with e; exact key [102] (by intro x hx; simp at hx; subst hx; simp [okTop]) (by simp) e.symm
            · simp at hf
        · split at hf
          · injection hf with e; exact key [] (by simp) (by simp) e.symm
          · simp at hf

theorem step_yes {s : ByteArray} {k top : Nat} {st st' : List Nat} {R : List Nat × List UInt8} (hk : k < s.size) (hf : fol top st s[k].toNat = some st') (h : auto (top :: st) (tl s k) = R) : auto st' (tl s (k + 1)) = R := by
  rw [tl_cons s k hk, auto_yes hf] at h
  exact h
theorem step_no {s : ByteArray} {k top : Nat} {st : List Nat} {R : List Nat × List UInt8} (hk : k < s.size) (hf : fol top st s[k].toNat = none) (h : auto (top :: st) (tl s k) = R) : R = (top :: st, tl s k) := by
  rw [← h, tl_cons s k hk, auto_no hf]
theorem step_empty {s : ByteArray} {k : Nat} {R : List Nat × List UInt8} (h : auto [] (tl s k) = R) : R = ([], tl s k) := by
  rw [← h, auto_nil]
theorem step_end {s : ByteArray} {k : Nat} {st : List Nat} {R : List Nat × List UInt8} (hk : s.size ≤ k) (h : auto st (tl s k) = R) : R = (st, []) := by
  rw [← h, tl_nil s k hk, auto_end]

/-- where the stack's way ends -/
def placeOf (s : ByteArray) : Int := if (auto [102] (tl s 0)).1 = [] ∧ (auto [102] (tl s 0)).2 = [] then -1 else ((s.size - (auto [102] (tl s 0)).2.length : Nat) : Int)

theorem placeOf_rest {s : ByteArray} {k : Nat} {st : List Nat} (hk : k < s.size) (h : auto [102] (tl s 0) = (st, tl s k)) : placeOf s = (k : Int) := by
  unfold placeOf
  rw [h]
  have hl := tl_length s k
  rw [if_neg (by rintro ⟨_, h2⟩; simp only at h2; rw [h2] at hl; simp at hl; omega)]
  simp only [hl]
  omega
theorem placeOf_short {s : ByteArray} {st : List Nat} (hs : st ≠ []) (h : auto [102] (tl s 0) = (st, [])) : placeOf s = (s.size : Int) := by
  unfold placeOf
  rw [h, if_neg (by rintro ⟨h1, _⟩; exact hs h1)]
  simp
theorem placeOf_good {s : ByteArray} (h : auto [102] (tl s 0) = ([], [])) : placeOf s = -1 := by
  unfold placeOf
  rw [h, if_pos ⟨rfl, rfl⟩]

end Go.Proofs.Ytcfbfdjmcabnkaa

namespace Go.Proofs.Ytcfbfdjmcabnkaa
open Go.RowKit Fw
open Go.Deep (BT)
set_option linter.unusedVariables false

theorem size_of {s : ByteArray} {l : List UInt8} (h : s.data.toList = l) : s.size = l.length := by
  rw [← h]
  show s.data.size = _
  rw [Array.length_toList]

theorem at0 {s : ByteArray} {c : UInt8} {r : List UInt8} (h : s.data.toList = c :: r) (h0 : 0 < s.size) : s[0].toNat = c.toNat := by
  have e : s[0] = c := by
    have : s.data.toList[0]'(by simpa using h0) = c := by simp [h]
    exact this
  rw [e]

theorem at1 {s : ByteArray} {c d : UInt8} {r : List UInt8} (h : s.data.toList = c :: d :: r) (h0 : 1 < s.size) : s[1].toNat = d.toNat := by
  have e : s[1] = d := by
    have : s.data.toList[1]'(by simpa using h0) = d := by simp [h]
    exact this
  rw [e]

theorem ext_tail1 {s : ByteArray} {c : UInt8} {r : List UInt8} (h : s.data.toList = c :: r) : (s.extract 1 s.size).data.toList = r := by
  rw [Lib.extract_data, h, size_of h]
  simp

theorem ext_tail2 {s : ByteArray} {c d : UInt8} {r : List UInt8} (h : s.data.toList = c :: d :: r) : (s.extract 2 s.size).data.toList = r := by
  rw [Lib.extract_data, h, size_of h]
  simp

/-- the two parts between brackets -/
theorem ext_left {s : ByteArray} {p x y z : List UInt8} {c : UInt8} (h : s.data.toList = p ++ (x ++ c :: (y ++ z))) : (s.extract p.length (p.length + x.length)).data.toList = x := by
  rw [Lib.extract_data, h]
  simp

theorem ext_right {s : ByteArray} {p x y : List UInt8} {c d : UInt8} (h : s.data.toList = p ++ (x ++ c :: (y ++ [d]))) : (s.extract (p.length + x.length + 1) (s.size - 1)).data.toList = y := by
  rw [Lib.extract_data, h, size_of h]
  have e : p ++ (x ++ c :: (y ++ [d])) = (p ++ x ++ [c]) ++ (y ++ [d]) := by simp
  rw [e, List.drop_left' (by simp; omega)]
  simp only [List.length_append, List.length_cons, List.length_nil]
  rw [show p.length + x.length + (0 + 1) + (y.length + (0 + 1)) - 1 - (p.length + x.length + 1) = y.length from by omega]
  simp

/-- where End comes to, behind p, at a formula with more behind it -/
theorem end_at {s : ByteArray} {p r : List UInt8} {t : Fm} (h : s.data.toList = p ++ (txt t ++ r)) (hg : good t) : s.size - (auto [102] (tl s p.length)).2.length = p.length + (txt t).length := by
  have e : tl s p.length = txt t ++ r := by
    unfold tl
    rw [h, List.drop_left]
  rw [e, auto_txt t hg, auto_nil, size_of h]
  simp
  omega

theorem end_at1 {s : ByteArray} {c : UInt8} {r : List UInt8} {t : Fm} (h : s.data.toList = c :: (txt t ++ r)) (hg : good t) : s.size - (auto [102] (tl s 1)).2.length = 1 + (txt t).length := by
  have := end_at (p := [c]) h hg
  rw [show [c].length = 1 from rfl] at this
  exact this
theorem end_at2 {s : ByteArray} {c d : UInt8} {r : List UInt8} {t : Fm} (h : s.data.toList = c :: d :: (txt t ++ r)) (hg : good t) : s.size - (auto [102] (tl s 2)).2.length = 2 + (txt t).length := by
  have := end_at (p := [c, d]) h hg
  rw [show [c, d].length = 2 from rfl] at this
  exact this
theorem ext_left1 {s : ByteArray} {x y z : List UInt8} {c d : UInt8} (h : s.data.toList = d :: (x ++ c :: (y ++ z))) : (s.extract 1 (1 + x.length)).data.toList = x := by
  have := ext_left (p := [d]) h
  rw [show [d].length = 1 from rfl] at this
  exact this
theorem ext_left2 {s : ByteArray} {x y z : List UInt8} {c d e : UInt8} (h : s.data.toList = d :: e :: (x ++ c :: (y ++ z))) : (s.extract 2 (2 + x.length)).data.toList = x := by
  have := ext_left (p := [d, e]) h
  rw [show [d, e].length = 2 from rfl] at this
  exact this
theorem ext_right1 {s : ByteArray} {x y : List UInt8} {c d e : UInt8} (h : s.data.toList = e :: (x ++ c :: (y ++ [d]))) : (s.extract (1 + x.length + 1) (s.size - 1)).data.toList = y := by
  have := ext_right (p := [e]) h
  rw [show [e].length = 1 from rfl] at this
  exact this
theorem ext_right2 {s : ByteArray} {x y : List UInt8} {c d e f : UInt8} (h : s.data.toList = e :: f :: (x ++ c :: (y ++ [d]))) : (s.extract (2 + x.length + 1) (s.size - 1)).data.toList = y := by
  have := ext_right (p := [e, f]) h
  rw [show [e, f].length = 2 from rfl] at this
  exact this

theorem i64_add1 (m : Nat) (h : m ≤ 1000) : IntKind.i64.wrap ((m : Int) + 1) = ((m + 1 : Nat) : Int) := by
  rw [IntKind.wrap_i64]; omega
theorem i64_sub1 (m : Nat) (h0 : 0 < m) (h : m ≤ 1000) : IntKind.i64.wrap ((m : Int) - 1) = ((m - 1 : Nat) : Int) := by
  rw [IntKind.wrap_i64]; omega

end Go.Proofs.Ytcfbfdjmcabnkaa

namespace Go.Proofs.Ytcfbfdjmcabnkaa
open Go.RowKit Fw
open Go.Deep (BT)
set_option linter.unusedVariables false

theorem nst_le : ∀ (t : Fm), good t → nst t ≤ (txt t).length := by
  intro t
  induction t with
  | nil => intro h; exact absurd h (by simp [good])
  | node sg wy u l r ihl ihr =>
    intro h
    rcases good_cases h with ⟨c, e, hc, ht⟩ | ⟨x, e, hx, ht⟩ | ⟨s, x, y, e, hs, hx, hy, ht⟩ | ⟨v, x, e, hv, hx, ht⟩ | ⟨s, v, x, y, e, hs, hv, hx, hy, ht⟩
    · rw [ht, e]; simp [nst]
    · rw [ht]
      injection e with _ e0 _ e1 e2
      subst e0 e1 e2
      have := ihl hx
      simp [nst]
      omega
    · rw [ht]
      injection e with _ e0 _ e1 e2
      subst e0 e1 e2
      have := ihl hx
      have := ihr hy
      simp [nst]
      omega
    · rw [ht]
      injection e with _ e0 _ e1 e2
      subst e0 e1 e2
      have := ihl hx
      simp only [nst, List.length_cons]
      split <;> omega
    · rw [ht]
      injection e with _ e0 _ e1 e2
      subst e0 e1 e2
      have := ihl hx
      have := ihr hy
      simp only [nst, List.length_cons, List.length_append]
      split <;> omega

theorem i64_1add (m : Nat) (h : m ≤ 1000) : IntKind.i64.wrap (1 + (m : Int)) = ((1 + m : Nat) : Int) := by
  rw [IntKind.wrap_i64]; omega

/-- P4, of a text of at most 30 bytes -/
def frm (s : ByteArray) : Nat × Nat :=
  if (pt (s.size + 1) (tl s 0)).1 = true ∧ (pt (s.size + 1) (tl s 0)).2.1 = [] then (if 3 < nst (pt (s.size + 1) (tl s 0)).2.2 then (6, 0) else (0, 0))
  else (5, s.size - (pt (s.size + 1) (tl s 0)).2.1.length)

theorem tl0 (s : ByteArray) : tl s 0 = s.data.toList := by simp [tl]

theorem place_frm (s : ByteArray) : ((pt (s.size + 1) (tl s 0)).1 = true ∧ (pt (s.size + 1) (tl s 0)).2.1 = [] ∧ placeOf s = -1) ∨
    (¬ ((pt (s.size + 1) (tl s 0)).1 = true ∧ (pt (s.size + 1) (tl s 0)).2.1 = []) ∧ placeOf s = ((s.size - (pt (s.size + 1) (tl s 0)).2.1.length : Nat) : Int)) := by
  have hl : (tl s 0).length = s.size := by rw [tl_length]; omega
  have := auto_pt (tl s 0)
  rw [hl] at this
  unfold placeOf
  rcases this with ⟨h1, h2⟩ | ⟨h1, st, h2, h3⟩
  · rw [h2]
    by_cases e : (pt (s.size + 1) (tl s 0)).2.1 = []
    · exact .inl ⟨h1, e, by simp [e]⟩
    · exact .inr ⟨fun h => e h.2, by simp [e]⟩
  · rw [h3]
    exact .inr ⟨(by rw [h1]; simp), by simp [h2]⟩

end Go.Proofs.Ytcfbfdjmcabnkaa

