import Derived.Test.YtkjnhhbibaimfaaWd
import Derived.BigRegion
namespace Go.Proofs.Ytkjnhhbibaimfaa
open Go.RowKit Fw
set_option linter.unusedVariables false

theorem stands_62 (s : ByteArray) (p : Nat) (w : World) (hs : s.size ≤ 210) (hp : p ≤ 211) :
    Calls Try.prog 108 #[.string s, .int .i64 p, .int .u8 62] w fun e w' => e = .returned (.bool (isAt s p 62)) ∧ w' = w := stands_any s p 62 w hs hp (by omega)
theorem stands_59 (s : ByteArray) (p : Nat) (w : World) (hs : s.size ≤ 210) (hp : p ≤ 211) :
    Calls Try.prog 108 #[.string s, .int .i64 p, .int .u8 59] w fun e w' => e = .returned (.bool (isAt s p 59)) ∧ w' = w := stands_any s p 59 w hs hp (by omega)

theorem skip_arrow (s : ByteArray) (p : Nat) (w : World) (hs : s.size ≤ 210) (hp : p ≤ s.size) :
    Calls Try.prog 63 #[.string s, .int .i64 p] w fun e w' => e = .returned (.int .i64 (arrow s p : Nat)) ∧ w' = w := skip_any s p w hs hp

theorem readNext_stop (s : ByteArray) (b p c : Nat) (M : Nat → Nat → Bool) (K : Nat → ByteArray) (w : World) (hs : s.size ≤ 210) (hq : arrow s p + 1 ≤ s.size) (hc : c < 6) (hg : Gr w b c M K) :
    Calls Try.prog 109 #[.pointer (some ⟨b, 0, none⟩), .string s, .int .i64 ((arrow s p : Int) + 1)] w fun e w' => e = .returned (.int .i64 (stop s p : Nat)) ∧ Below b w w' ∧ Gr w' b c (marked s (arrow s p + 1) c M (many s p)) K :=
  readNext_any s b (arrow s p + 1) c M K w hs hq hc hg

set_option maxRecDepth 100000 in
set_option maxHeartbeats 1000000 in
theorem readState_any (s : ByteArray) (b p c : Nat) (M : Nat → Nat → Bool) (K : Nat → ByteArray) (w : World) (hs : s.size ≤ 210) (hp : p ≤ s.size) (hc : c < 6) (HG : Hid (Gr w b c M K)) :
    Calls Try.prog 88 #[.pointer (some ⟨b, 0, none⟩), .string s, .int .i64 p] w fun e w' => Below b w w' ∧
      ((isAt s (arrow s p) 62 = false ∧ e = .returned (.tuple #[.int .i64 (arrow s p : Nat), .bool false])) ∨
       (isAt s (arrow s p) 62 = true ∧ isAt s (stop s p) 59 = false ∧ e = .returned (.tuple #[.int .i64 (stop s p : Nat), .bool false])) ∨
       (isAt s (arrow s p) 62 = true ∧ isAt s (stop s p) 59 = true ∧ e = .returned (.tuple #[.int .i64 ((stop s p + 1 : Nat) : Int), .bool true]) ∧ Gr w' b (c + 1) (marked s (arrow s p + 1) c M (many s p)) (fun x => if x = c then s.extract p (arrow s p) else K x))) := by
  have ha := arrow_le (s := s) hp
  go_enter Try.func88, Try.ntmps88
  go_wp2_with fail
  refine (skip_arrow s p _ hs hp).mono ?_
  rintro e w1 ⟨rfl, rfl⟩
  go_wp2_with fail
  refine (stands_62 s _ _ hs (by omega)).mono ?_
  rintro e w1 ⟨rfl, rfl⟩
  cases hA : isAt s (arrow s p) 62 with
  | false =>
    go_wp2_with fail
    go_ret2
    exact ⟨Below.refl _ _, .inl ⟨hA, rfl⟩⟩
  | true =>
    have hal := isAt_lt hA
    have hst := stop_le hal
    go_wp2_with fail
    refine (readNext_stop s b p c M K _ hs (by omega) hc HG.out).mono ?_
    rintro e w2 ⟨rfl, hbel, hg⟩
    have HG2 : Hid (Gr w2 b c (marked s (arrow s p + 1) c M (many s p)) K) := hg
    clear hg
    go_wp2_with fail
    refine (stands_59 s _ _ hs (by omega)).mono ?_
    rintro e w3 ⟨rfl, rfl⟩
    cases hB : isAt s (stop s p) 59 with
    | false =>
      go_wp2_with fail
      go_ret2
      exact ⟨hbel, .inr (.inl ⟨by first | exact hA | rfl, hB, rfl⟩)⟩
    | true =>
      have hcn := HG2.out.cn
      have hfz := HG2.out.fz 2 (by omega)
      have hmk := HG2.out.ms c hc
      have hfm := HG2.out.fz (3 + c) (by omega)
      have hle := le_arrow s p
      go_wp2_with fail
      go_region
      go_wp2_with fail
      go_ret2
      exact ⟨(hbel.setCell (by simp) _).drew.setCell (by simp) _, .inr (.inr ⟨by first | exact hA | rfl, hB, rfl, (HG2.out.mark c hc _).drew.bump⟩)⟩

/-- the edges of the states that begin there -/
def mat (s : ByteArray) (acc : List Nat) : Nat → Nat → Bool := fun i j =>
  match acc[i]? with
  | some p => (List.range (many s p)).any fun k => byteAt s (arrow s p + 1 + k) == j + 48
  | none => false

theorem mat_snoc (s : ByteArray) (acc : List Nat) (p : Nat) : marked s (arrow s p + 1) acc.length (mat s acc) (many s p) = mat s (acc ++ [p]) := by
  funext i j
  unfold marked mat
  by_cases h : i < acc.length
  · have h2 : (i == acc.length) = false := by rw [beq_eq_false_iff_ne]; omega
    rw [List.getElem?_append_left h, h2, Bool.false_and, Bool.or_false]
  · by_cases h3 : i = acc.length
    · subst h3
      simp
    · have h2 : (i == acc.length) = false := by rw [beq_eq_false_iff_ne]; omega
      have h4 : acc[i]? = none := List.getElem?_eq_none (by omega)
      have h5 : (acc ++ [p])[i]? = none := List.getElem?_eq_none (by simp; omega)
      rw [h4, h5, h2]
      simp

theorem mat_some {s : ByteArray} {acc : List Nat} {i p : Nat} (h : acc[i]? = some p) (j : Nat) : mat s acc i j = (List.range (many s p)).any fun k => byteAt s (arrow s p + 1 + k) == j + 48 := by
  unfold mat
  rw [h]

/-- the marks of a state, as a text -/
def mrk (s : ByteArray) (acc : List Nat) (i : Nat) : ByteArray :=
  match acc[i]? with
  | some p => s.extract p (arrow s p)
  | none => ByteArray.empty

theorem mrk_some {s : ByteArray} {acc : List Nat} {i p : Nat} (h : acc[i]? = some p) : mrk s acc i = s.extract p (arrow s p) := by unfold mrk; rw [h]
theorem mrk_none {s : ByteArray} {acc : List Nat} {i : Nat} (h : acc.length ≤ i) : mrk s acc i = ByteArray.empty := by unfold mrk; rw [List.getElem?_eq_none h]
theorem mrk_size (s : ByteArray) (acc : List Nat) (i : Nat) (hs : s.size ≤ 210) : (mrk s acc i).size ≤ 1000 := by
  unfold mrk
  split
  · rw [ByteArray.size_extract]; omega
  · exact Nat.zero_le _

theorem mrk_snoc (s : ByteArray) (acc : List Nat) (p : Nat) : (fun x => if x = acc.length then s.extract p (arrow s p) else mrk s acc x) = mrk s (acc ++ [p]) := by
  funext x
  by_cases h : x = acc.length
  · subst h
    rw [if_pos rfl, mrk_some (p := p) (by simp)]
  · rw [if_neg h]
    unfold mrk
    by_cases h2 : x < acc.length
    · rw [List.getElem?_append_left h2]
    · rw [List.getElem?_eq_none (by omega), List.getElem?_eq_none (by simp; omega)]

set_option maxRecDepth 100000 in
set_option maxHeartbeats 1000000 in
theorem readStates_any (s : ByteArray) (b : Nat) (w : World) (hs : s.size ≤ 210) (HG : Hid (Gr w b 0 (mat s []) (mrk s []))) :
    Calls Try.prog 61 #[.pointer (some ⟨b, 0, none⟩), .string s] w fun e w' => Below b w w' ∧
      (((run s 6 0).1 = false ∧ e = .returned (.tuple #[.int .i64 ((run s 6 0).2.1 : Nat), .bool false])) ∨
       ((run s 6 0).1 = true ∧ ∃ q : Nat, e = .returned (.tuple #[.int .i64 q, .bool true]) ∧ Gr w' b (run s 6 0).2.2.length (mat s (run s 6 0).2.2) (mrk s (run s 6 0).2.2))) := by
  go_enter Try.func61, Try.ntmps61
  go_wp2
  go_loopw [6] (fun q wr => ∃ (acc : List Nat) (p : Nat), p ≤ s.size ∧ q = .int .i64 p ∧ acc.length ≤ 6 ∧ Below b w wr ∧ Hid (Gr wr b acc.length (mat s acc) (mrk s acc)) ∧ Hid ((p < s.size ∨ acc = []) ∧ Inv s acc p)) (fun q _ => s.size + 1 - (intOf q).toNat)
  case atStart => exact ⟨[], 0, by omega, rfl, by simp, Below.refl _ _, HG, .inr rfl, inv_start s⟩
  case round =>
    obtain ⟨acc, p, hp, rfl, hlen, hbel, HR, HI⟩ := hrel
    have hcn := HR.out.cn
    by_cases h6 : acc.length < 6
    · go_wp2_with fail
      refine (readState_any s b p acc.length (mat s acc) (mrk s acc) _ hs hp h6 HR).mono ?_
      rintro e w1 ⟨hb1, ⟨hA, rfl⟩ | ⟨hA, hB, rfl⟩ | ⟨hA, hB, rfl, hg⟩⟩
      · have HA : Hid (isAt s (arrow s p) 62 = false) := hA
        clear hA
        go_wp2_with fail
        go_ret2
        have h := inv_arrow HI.out.2 HI.out.1 h6 HA.out
        exact ⟨hbel.trans hb1, .inl ⟨h.1, by rw [h.2]; rfl⟩⟩
      · have HA : Hid (isAt s (arrow s p) 62 = true) := hA
        have HB : Hid (isAt s (stop s p) 59 = false) := hB
        clear hA hB
        go_wp2_with fail
        go_ret2
        have h := inv_stop HI.out.2 HI.out.1 h6 HA.out HB.out
        exact ⟨hbel.trans hb1, .inl ⟨h.1, by rw [h.2]; rfl⟩⟩
      · have HA : Hid (isAt s (arrow s p) 62 = true) := hA
        have HB : Hid (isAt s (stop s p) 59 = true) := hB
        rw [mat_snoc, mrk_snoc] at hg
        have HG2 : Hid (Gr w1 b (acc.length + 1) (mat s (acc ++ [p])) (mrk s (acc ++ [p]))) := hg
        have hsl := isAt_lt hB
        have hsp := lt_stop s p
        have hap := le_arrow s p
        clear hA hB hg
        have HN := inv_next HI.out.2 HI.out.1 h6 HA.out HB.out
        have HN2 : Hid (Inv s (acc ++ [p]) (stop s p + 1)) := HN
        clear HN
        by_cases he : stop s p + 1 = s.size
        · have he' : ((((stop s p + 1 : Nat) : Int)) == (s.size : Int)) = true := by rw [beq_iff_eq]; omega
          have HE : Hid (stop s p + 1 = s.size) := he
          clear he
          go_wp2_with fail
          go_ret2
          have h := inv_end HN2.out (by have := HE.out; omega) (by simp)
          refine ⟨hbel.trans hb1, .inr ⟨by rw [h], stop s p + 1, by first | rfl | (rw [HE.out]; rfl), ?_⟩⟩
          rw [h]
          simpa using HG2.out
        · have he' : ((((stop s p + 1 : Nat) : Int)) == (s.size : Int)) = false := by rw [beq_eq_false_iff_ne]; omega
          go_wp2_with fail
          go_roundw
          case rel =>
            exact ⟨acc ++ [p], stop s p + 1, by omega, by go_num, by simp; omega, hbel.trans hb1, by show Gr _ _ _ _ _; simpa using HG2.out, .inl (by omega), HN2.out⟩
          case measure => simp [intOf]; omega
    · have h6' : acc.length = 6 := by omega
      have H6 : Hid (acc.length = 6) := h6'
      clear h6'
      go_wp2_with fail
      go_ret2
      have h := inv_full HI.out.2 HI.out.1 H6.out
      exact ⟨hbel, .inl ⟨h.1, by rw [h.2]; rfl⟩⟩

end Go.Proofs.Ytkjnhhbibaimfaa
