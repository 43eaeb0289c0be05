import Derived.Test.YtkjnhhbibaimfaaYe
namespace Go.Proofs.Ytkjnhhbibaimfaa
open Go.RowKit Fw
open Go.Deep (BT)
set_option linter.unusedVariables false

theorem Out.pair {x : Bool × List UInt8 × Fm} {b d : Nat} {s : ByteArray} {v : Value} {ns : List Nd} {w w' : World} {e : Ending} (h : Out x b s d v ns w e w') : ∃ (i : Int) (ok : Bool), e = .returned (.tuple #[.int .i64 i, .bool ok]) := by
  obtain ⟨v', ns', _, _, _, ⟨_, i, h, _⟩ | ⟨_, h⟩⟩ := h
  · exact ⟨_, _, h⟩
  · exact ⟨_, _, h⟩

theorem Out.pre {x : Bool × List UInt8 × Fm} {b d : Nat} {s : ByteArray} {v : Value} {ns : List Nd} {w W w' : World} {e : Ending} (hk : Kp b v v w W) (h : Out x b s d v ns W e w') : Out x b s d v ns w e w' := by
  obtain ⟨v', ns', h1, h2, h3⟩ := h
  exact ⟨v', ns', h1, hk.trans h2, h3⟩

theorem Out.fail {l : List UInt8} {b d p : Nat} {s : ByteArray} {v : Value} {ns : List Nd} {w w' : World} (hl : s.size - l.length = p) (hr : Rd w' b s p v ns) (hk : Kp b v v w w') (hd : ns.length + d ≤ p) :
    Out (false, l, .nil) b s d v ns w (.returned (.tuple #[.int .i64 0, .bool false])) w' := by
  refine ⟨v, [], ?_, hk, ?_, .inr ⟨rfl, rfl⟩⟩
  · rw [List.append_nil]; show Rd w' b s (s.size - l.length) v ns; rw [hl]; exact hr
  · rw [List.append_nil]; show _ ≤ s.size - l.length; rw [hl]; exact hd

theorem skip_88 (b p : Nat) (s : ByteArray) (v : Value) (ns : List Nd) (w : World) (hs : s.size ≤ 30) (hp : p ≤ s.size) (HR : Hid (Rd w b s p v ns)) :
    Calls Try.prog 97 #[.pointer (some ⟨b, 0, none⟩), .int .u8 88] w fun e w' =>
      (isAt s p 88 = true ∧ e = .returned (.bool true) ∧ Rd w' b s (p + 1) v ns ∧ Kp b v v w w') ∨
      (isAt s p 88 = false ∧ e = .returned (.bool false) ∧ Rd w' b s p v ns ∧ Kp b v v w w') := skip1_any b p 88 s v ns w hs hp (by omega) HR
theorem skip_91 (b p : Nat) (s : ByteArray) (v : Value) (ns : List Nd) (w : World) (hs : s.size ≤ 30) (hp : p ≤ s.size) (HR : Hid (Rd w b s p v ns)) :
    Calls Try.prog 97 #[.pointer (some ⟨b, 0, none⟩), .int .u8 91] w fun e w' =>
      (isAt s p 91 = true ∧ e = .returned (.bool true) ∧ Rd w' b s (p + 1) v ns ∧ Kp b v v w w') ∨
      (isAt s p 91 = false ∧ e = .returned (.bool false) ∧ Rd w' b s p v ns ∧ Kp b v v w w') := skip1_any b p 91 s v ns w hs hp (by omega) HR

theorem readOne_88 (n : Nat) (hP : PartAt n) (wy b p d : Nat) (s : ByteArray) (v : Value) (ns : List Nd) (w : World) (hs : s.size ≤ 30) (hp : p ≤ s.size) (hd : ns.length + (d + 1) ≤ p) (HR : Hid (Rd w b s p v ns)) (hn : s.size - p < n) :
    Calls Try.prog 69 #[.pointer (some ⟨b, 0, none⟩), .agg #[.int .u8 88, .int .u8 (wy : Int), .int .i64 0, .int .i64 0, .int .i64 0]] w fun e w' => Out (one 88 wy (pt n (tl s p))) b s d v ns w e w' :=
  readOne_any n hP 88 wy b p d s v ns w hs hp hd HR hn
theorem readOne_33 (n : Nat) (hP : PartAt n) (b p d : Nat) (s : ByteArray) (v : Value) (ns : List Nd) (w : World) (hs : s.size ≤ 30) (hp : p ≤ s.size) (hd : ns.length + (d + 1) ≤ p) (HR : Hid (Rd w b s p v ns)) (hn : s.size - p < n) :
    Calls Try.prog 69 #[.pointer (some ⟨b, 0, none⟩), .agg #[.int .u8 33, .int .u8 0, .int .i64 0, .int .i64 0, .int .i64 0]] w fun e w' => Out (one 33 0 (pt n (tl s p))) b s d v ns w e w' :=
  readOne_any n hP 33 0 b p d s v ns w hs hp hd HR hn
theorem readTwo_ur (n : Nat) (hP : PartAt n) (wy b p d : Nat) (s : ByteArray) (v : Value) (ns : List Nd) (w : World) (hs : s.size ≤ 30) (hp : p ≤ s.size) (hd : ns.length + (d + 1) ≤ p) (HR : Hid (Rd w b s p v ns)) (hn : s.size - p < n) :
    Calls Try.prog 70 #[.pointer (some ⟨b, 0, none⟩), .agg #[.int .u8 0, .int .u8 (wy : Int), .int .i64 0, .int .i64 0, .int .i64 0], .int .u8 85, .int .u8 82, .int .u8 93] w fun e w' => Out (two (pt n) wy 85 82 93 (tl s p)) b s d v ns w e w' :=
  readTwo_any n hP wy 85 82 93 b p d s v ns w (by omega) (by omega) (by omega) hs hp hd HR hn
theorem readTwo_bin (n : Nat) (hP : PartAt n) (b p d : Nat) (s : ByteArray) (v : Value) (ns : List Nd) (w : World) (hs : s.size ≤ 30) (hp : p ≤ s.size) (hd : ns.length + (d + 1) ≤ p) (HR : Hid (Rd w b s p v ns)) (hn : s.size - p < n) :
    Calls Try.prog 70 #[.pointer (some ⟨b, 0, none⟩), .agg #[.int .u8 0, .int .u8 0, .int .i64 0, .int .i64 0, .int .i64 0], .int .u8 38, .int .u8 43, .int .u8 41] w fun e w' => Out (two (pt n) 0 38 43 41 (tl s p)) b s d v ns w e w' :=
  readTwo_any n hP 0 38 43 41 b p d s v ns w (by omega) (by omega) (by omega) hs hp hd HR hn
theorem add_atom (b p sg : Nat) (s : ByteArray) (v : Value) (ns : List Nd) (w : World) (hn : ns.length ≤ 1000) (HR : Hid (Rd w b s p v ns)) :
    Calls Try.prog 68 #[.pointer (some ⟨b, 0, none⟩), .agg #[.int .u8 (sg : Int), .int .u8 0, .int .i64 0, .int .i64 0, .int .i64 0]] w fun e w' =>
      e = .returned (.int .i64 (ns.length : Int)) ∧ ∃ v', Rd w' b s p v' (ns ++ [(sg, 0, 0, 0, 0)]) ∧ Kp b v v' w w' :=
  add_any b p sg 0 0 0 0 s v ns w hn (by omega) HR

section
variable {f : List UInt8 → Bool × List UInt8 × Fm} {wy p n : Nat} {s : ByteArray}
theorem ways_x (h : isAt s p 88 = true) : Fw.ways f wy (tl s p) = one 88 wy (f (tl s (p + 1))) := by
  obtain ⟨d, e, hd⟩ := isAt_tl h
  rw [e]
  dsimp only [Fw.ways]
  rw [if_pos hd]
theorem ways_br (h : isAt s p 91 = true) : Fw.ways f wy (tl s p) = two f wy 85 82 93 (tl s (p + 1)) := by
  obtain ⟨d, e, hd⟩ := isAt_tl h
  rw [e]
  dsimp only [Fw.ways]
  rw [if_neg (by omega), if_pos hd]
theorem ways_no (h : isAt s p 88 = false) (h2 : isAt s p 91 = false) : Fw.ways f wy (tl s p) = (false, tl s p, .nil) := by
  rcases isAt_tl_no h with e | ⟨d, r, e, hd⟩
  · rw [e]; rfl
  · rcases isAt_tl_no h2 with e2 | ⟨d2, r2, e2, hd2⟩
    · rw [e2]; rfl
    · rw [e] at e2
      injection e2 with e3 e4
      subst e3
      rw [e]
      dsimp only [Fw.ways]
      rw [if_neg hd, if_neg hd2]

theorem pt_end (h : ¬ p < s.size) : pt (n + 1) (tl s p) = (false, tl s p, .nil) := by rw [tl_nil s p (by omega)]; rfl
theorem pt_atom (h : p < s.size) (ha : isAtom s[p].toNat = true) : pt (n + 1) (tl s p) = (true, tl s (p + 1), .node s[p].toNat 0 () .nil .nil) := by
  rw [tl_cons s p h, pt, if_pos ha]
theorem pt_not (h : p < s.size) (ha : s[p].toNat = 33) : pt (n + 1) (tl s p) = one 33 0 (pt n (tl s (p + 1))) := by
  rw [tl_cons s p h, pt, if_neg (by rw [ha]; simp [isAtom]), if_pos ha]
theorem pt_open (h : p < s.size) (ha : s[p].toNat = 40) : pt (n + 1) (tl s p) = two (pt n) 0 38 43 41 (tl s (p + 1)) := by
  rw [tl_cons s p h, pt, if_neg (by rw [ha]; simp [isAtom]), if_neg (by omega), if_pos ha]
theorem pt_way (h : p < s.size) (ha : s[p].toNat = 69 ∨ s[p].toNat = 65) : pt (n + 1) (tl s p) = Fw.ways (pt n) s[p].toNat (tl s (p + 1)) := by
  rw [tl_cons s p h, pt, if_neg (by rcases ha with ha | ha <;> rw [ha] <;> simp [isAtom]), if_neg (by omega), if_neg (by omega), if_pos ha]
theorem pt_none (h : p < s.size) (h1 : ¬ isAtom s[p].toNat = true) (h2 : ¬ s[p].toNat = 33) (h3 : ¬ s[p].toNat = 40) (h4 : ¬ (s[p].toNat = 69 ∨ s[p].toNat = 65)) : pt (n + 1) (tl s p) = (false, tl s p, .nil) := by
  rw [tl_cons s p h, pt, if_neg h1, if_neg h2, if_neg h3, if_neg h4]
end

set_option maxRecDepth 100000 in
set_option maxHeartbeats 3200000 in
theorem readWays_any (n : Nat) (hP : PartAt n) (wy b p d : Nat) (s : ByteArray) (v : Value) (ns : List Nd) (w : World) (hs : s.size ≤ 30) (hp : p ≤ s.size) (hd : ns.length + (d + 1) ≤ p) (HR : Hid (Rd w b s p v ns)) (hn : s.size - p < n) :
    Calls Try.prog 71 #[.pointer (some ⟨b, 0, none⟩), .int .u8 (wy : Int)] w fun e w' => Out (Fw.ways (pt n) wy (tl s p)) b s d v ns w e w' := by
  go_enter Try.func71, Try.ntmps71
  go_wp2_with fail
  refine (skip_88 b p s v ns _ hs hp HR).mono ?_
  rintro e w1 (⟨hA, rfl, hrd, hkp⟩ | ⟨hA, rfl, hrd, hkp⟩)
  · have hlt := isAt_lt hA
    have HW : Hid (Fw.ways (pt n) wy (tl s p) = one 88 wy (pt n (tl s (p + 1)))) := ways_x hA
    have HRD : Hid (Rd w1 b s (p + 1) v ns) := hrd
    have HKP : Hid (Kp b v v w w1) := hkp
    clear hA hrd hkp
    go_wp2_with fail
    refine (readOne_88 n hP wy b (p + 1) d s v ns _ hs (by omega) (by omega) HRD (by omega)).mono ?_
    intro e w2 ho
    obtain ⟨i, ok, rfl⟩ := ho.pair
    have HO : Hid (Out (one 88 wy (pt n (tl s (p + 1)))) b s d v ns w1 (.returned (.tuple #[.int .i64 i, .bool ok])) w2) := ho
    clear ho
    go_wp2_with fail
    go_ret2
    show Out _ b s d v ns w _ _
    rw [HW.out]
    exact HO.out.pre HKP.out
  · have HA : Hid (isAt s p 88 = false) := hA
    have HRD : Hid (Rd w1 b s p v ns) := hrd
    have HKP : Hid (Kp b v v w w1) := hkp
    clear hA hrd hkp
    go_wp2_with fail
    refine (skip_91 b p s v ns _ hs hp HRD).mono ?_
    rintro e w2 (⟨hB, rfl, hrd, hkp⟩ | ⟨hB, rfl, hrd, hkp⟩)
    · have hlt := isAt_lt hB
      have HW : Hid (Fw.ways (pt n) wy (tl s p) = two (pt n) wy 85 82 93 (tl s (p + 1))) := ways_br hB
      have HRD2 : Hid (Rd w2 b s (p + 1) v ns) := hrd
      have HKP2 : Hid (Kp b v v w w2) := HKP.out.trans hkp
      clear hB hrd hkp
      go_wp2_with fail
      refine (readTwo_ur n hP wy b (p + 1) d s v ns _ hs (by omega) (by omega) HRD2 (by omega)).mono ?_
      intro e w3 ho
      obtain ⟨i, ok, rfl⟩ := ho.pair
      have HO : Hid (Out (two (pt n) wy 85 82 93 (tl s (p + 1))) b s d v ns w2 (.returned (.tuple #[.int .i64 i, .bool ok])) w3) := ho
      clear ho
      go_wp2_with fail
      go_ret2
      show Out _ b s d v ns w _ _
      rw [HW.out]
      exact HO.out.pre HKP2.out
    · have HW : Hid (Fw.ways (pt n) wy (tl s p) = (false, tl s p, .nil)) := ways_no HA.out hB
      have HRD2 : Hid (Rd w2 b s p v ns) := hrd
      have HKP2 : Hid (Kp b v v w w2) := HKP.out.trans hkp
      clear hB hrd hkp
      go_wp2_with fail
      go_ret2
      show Out _ b s d v ns w _ _
      rw [HW.out]
      exact Out.fail (tl_len_pt s p hp) HRD2.out HKP2.out (by omega)

theorem isLetter_any (c : Nat) (w : World) : Calls Try.prog 67 #[.int .u8 (c : Int)] w fun e w' => e = .returned (.bool (isLet c)) ∧ w' = w := by
  by_cases h1 : (97 : Int) ≤ (c : Int)
  · by_cases h2 : (c : Int) ≤ 122
    · go_enter Try.func67, Try.ntmps67
      go_wp2
      go_ret
      exact ⟨by simp [isLet]; omega, rfl⟩
    · go_enter Try.func67, Try.ntmps67
      go_wp2
      go_ret
      exact ⟨by simp [isLet]; omega, rfl⟩
  · go_enter Try.func67, Try.ntmps67
    go_wp2
    go_ret
    exact ⟨by simp [isLet]; omega, rfl⟩

end Go.Proofs.Ytkjnhhbibaimfaa
