import Derived.Deep.AppendLies
import Derived.BigRegion
import Derived.Deep.MidRow
import Derived.BigQuiet
import Derived.Laws.Tables
import Derived.Test.YtcfbfdjmcabnkaaG2
namespace Go.Proofs.Ytcfbfdjmcabnkaa
open Go.RowKit Fw
set_option linter.unusedVariables false

/-- a state's two cells: its marks, its next states -/
def two (s : ByteArray) (p : Nat) : List Value := [.string (s.extract p (arrow s p)), .string (s.extract (arrow s p + 1) (stop s p))]
def flat (s : ByteArray) (acc : List Nat) : List Value := acc.flatMap (two s)

theorem flat_snoc (s : ByteArray) (acc : List Nat) (p : Nat) : flat s (acc ++ [p]) = flat s acc ++ two s p := by simp [flat]

theorem below_drewN' {B : Nat} {a w : World} (h : Below B a w) (n : Nat) : Below B a (w.drewN n) := below_drewN h n

theorem ownsRow_drewN {w : World} {base e size n : Nat} {v : Value} {xs : List Value} (h : w.ownsRow base e size v n xs) (k : Nat) : (w.drewN k).ownsRow base e size v n xs := h

end Go.Proofs.Ytcfbfdjmcabnkaa

namespace Go.Proofs.Ytcfbfdjmcabnkaa
open Go.RowKit Fw
set_option linter.unusedVariables false

theorem flat_get (s : ByteArray) (p : Nat) : ∀ (acc : List Nat) (i : Nat), acc[i]? = some p → (flat s acc)[i * 2 + 1]? = some (.string (s.extract (arrow s p + 1) (stop s p))) := by
  intro acc
  induction acc with
  | nil => intro i h; simp at h
  | cons q r ih =>
    intro i h
    cases i with
    | zero =>
      simp at h
      subst h
      simp [flat, two]
    | succ i =>
      have h' := ih i (by simpa using h)
      have e : (i + 1) * 2 + 1 = (i * 2 + 1) + 2 := by omega
      rw [e]
      simpa [flat, two] using h'

end Go.Proofs.Ytcfbfdjmcabnkaa

namespace Go.Proofs.Ytcfbfdjmcabnkaa
open Go.RowKit Fw
set_option linter.unusedVariables false

/-- block b is a graph that is being read: c states so far, the edges M -/
structure Gr (w : World) (b c : Nat) (M : Nat → Nat → Bool) (K : Nat → ByteArray) : Prop where
  lt : b < w.heap.size
  e0 : w.cell? ⟨b, 0, none⟩ = some (.int .i64 0)
  e1 : w.cell? ⟨b, 1, none⟩ = some (.int .i64 0)
  cn : w.cell? ⟨b, 2, none⟩ = some (.int .i64 (c : Int))
  ms : ∀ i, i < 6 → w.cell? ⟨b, 3 + i, none⟩ = some (.string (K i))
  mx : ∀ i j, i < 6 → j < 6 → w.cell? ⟨b, 9 + i * 6 + j, none⟩ = some (.bool (M i j))
  fz : ∀ o, o < 45 → w.frozen? ⟨b, o, none⟩ = false

theorem Gr.drewN {w : World} {b c : Nat} {M : Nat → Nat → Bool} {K : Nat → ByteArray} (h : Gr w b c M K) (n : Nat) : Gr (w.drewN n) b c M K := ⟨h.lt, h.e0, h.e1, h.cn, h.ms, h.mx, h.fz⟩
theorem Gr.drew {w : World} {b c : Nat} {M : Nat → Nat → Bool} {K : Nat → ByteArray} (h : Gr w b c M K) : Gr w.drew b c M K := ⟨h.lt, h.e0, h.e1, h.cn, h.ms, h.mx, h.fz⟩

theorem addr_ne {b o p : Nat} (h : o ≠ p) : (⟨b, o, none⟩ : Addr) ≠ ⟨b, p, none⟩ := by
  intro e
  injection e
  contradiction

theorem cell_other {w : World} {a b : Addr} {v : Value} (h : a ≠ b) : (w.setCell a v).cell? b = w.cell? b := World.cell?_setCell_other _ _ _ _ h
theorem cell_same {w : World} {a : Addr} {u v : Value} (h : w.cell? a = some u) : (w.setCell a v).cell? a = some v := World.cell?_setCell_same _ _ _ h

theorem Gr.set {w : World} {b c : Nat} {M : Nat → Nat → Bool} {K : Nat → ByteArray} (h : Gr w b c M K) (i j : Nat) (hi : i < 6) (hj : j < 6) :
    Gr (w.setCell ⟨b, 9 + i * 6 + j, none⟩ (.bool true)) b c (fun x y => M x y || (x == i && y == j)) K := by
  refine ⟨by simpa using h.lt, ?_, ?_, ?_, ?_, ?_, ?_⟩
  · rw [cell_other (addr_ne (by omega))]; exact h.e0
  · rw [cell_other (addr_ne (by omega))]; exact h.e1
  · rw [cell_other (addr_ne (by omega))]; exact h.cn
  · intro x hx
    rw [cell_other (addr_ne (by omega))]; exact h.ms x hx
  · intro x y hx hy
    by_cases e : x = i ∧ y = j
    · obtain ⟨rfl, rfl⟩ := e
      rw [cell_same (h.mx x y hx hy)]
      simp
    · rw [cell_other (addr_ne (by omega)), h.mx x y hx hy]
      have : (x == i && y == j) = false := by
        rw [Bool.and_eq_false_iff, beq_eq_false_iff_ne, beq_eq_false_iff_ne]
        omega
      rw [this, Bool.or_false]
  · intro o ho
    rw [World.frozen?_setCell]
    exact h.fz o ho

theorem Gr.bump {w : World} {b c : Nat} {M : Nat → Nat → Bool} {K : Nat → ByteArray} (h : Gr w b c M K) :
    Gr (w.setCell ⟨b, 2, none⟩ (.int .i64 ((c : Int) + 1))) b (c + 1) M K := by
  refine ⟨by simpa using h.lt, ?_, ?_, ?_, ?_, ?_, ?_⟩
  · rw [cell_other (addr_ne (by omega))]; exact h.e0
  · rw [cell_other (addr_ne (by omega))]; exact h.e1
  · rw [cell_same h.cn]; simp
  · intro x hx
    rw [cell_other (addr_ne (by omega))]; exact h.ms x hx
  · intro x y hx hy
    rw [cell_other (addr_ne (by omega))]
    exact h.mx x y hx hy
  · intro o ho
    rw [World.frozen?_setCell]
    exact h.fz o ho

theorem Gr.mark {w : World} {b c : Nat} {M : Nat → Nat → Bool} {K : Nat → ByteArray} (h : Gr w b c M K) (i : Nat) (hi : i < 6) (t : ByteArray) :
    Gr (w.setCell ⟨b, 3 + i, none⟩ (.string t)) b c M (fun x => if x = i then t else K x) := by
  refine ⟨by simpa using h.lt, ?_, ?_, ?_, ?_, ?_, ?_⟩
  · rw [cell_other (addr_ne (by omega))]; exact h.e0
  · rw [cell_other (addr_ne (by omega))]; exact h.e1
  · rw [cell_other (addr_ne (by omega))]; exact h.cn
  · intro x hx
    by_cases e : x = i
    · subst e
      rw [cell_same (h.ms x hx), if_pos rfl]
    · rw [cell_other (addr_ne (by omega)), if_neg e]; exact h.ms x hx
  · intro x y hx hy
    rw [cell_other (addr_ne (by omega))]
    exact h.mx x y hx hy
  · intro o ho
    rw [World.frozen?_setCell]
    exact h.fz o ho

/-- the edges behind k digits from place q on, read as the next states of state c -/
def marked (s : ByteArray) (q c : Nat) (M : Nat → Nat → Bool) (k : Nat) : Nat → Nat → Bool :=
  fun x y => M x y || (x == c && (List.range k).any fun i => byteAt s (q + i) == y + 48)

theorem marked_succ (s : ByteArray) (q c : Nat) (M : Nat → Nat → Bool) (k d : Nat) (hd : byteAt s (q + k) = d + 48) :
    (fun x y => marked s q c M k x y || (x == c && y == d)) = marked s q c M (k + 1) := by
  funext x y
  unfold marked
  rw [List.range_succ, List.any_append]
  have : ([k].any fun i => byteAt s (q + i) == y + 48) = (y == d) := by
    simp only [List.any_cons, List.any_nil, Bool.or_false, hd]
    rw [Bool.eq_iff_iff, beq_iff_eq, beq_iff_eq]
    omega
  rw [this]
  cases M x y <;> cases (x == c) <;> simp

theorem marked_zero (s : ByteArray) (q c : Nat) (M : Nat → Nat → Bool) : marked s q c M 0 = M := by
  funext x y
  simp [marked]

set_option maxRecDepth 100000 in
set_option maxHeartbeats 1000000 in
theorem readNext_any (s : ByteArray) (b q c : Nat) (M : Nat → Nat → Bool) (K : Nat → ByteArray) (w : World) (hs : s.size ≤ 210) (hq : q ≤ s.size) (hc : c < 6) (hg : Gr w b c M K) :
    Calls Try.prog 80 #[.pointer (some ⟨b, 0, none⟩), .string s, .int .i64 q] w fun e w' => e = .returned (.int .i64 ((q + scan 53 48 (tl s q) : Nat) : Int)) ∧ Below b w w' ∧ Gr w' b c (marked s q c M (scan 53 48 (tl s q))) K := by
  have HG : Hid (Gr w b c M K) := hg
  clear hg
  go_enter Try.func80, Try.ntmps80
  go_wp2
  go_loopw [2, 7] (fun a l wr => ∃ k L : Nat, q + k ≤ s.size ∧ a = .int .i64 ((q + k : Nat) : Int) ∧ l = .int .i64 L ∧ L ≤ 6 ∧ Hid (k + scan 53 (L + 48) (tl s (q + k)) = scan 53 48 (tl s q)) ∧ Below b w wr ∧ Hid (Gr wr b c (marked s q c M k) K)) (fun a _ _ => s.size - (intOf a).toNat)
  case atStart => exact ⟨0, 0, by omega, rfl, rfl, by omega, by show _ = _; simp, Below.refl _ _, by show Gr _ _ _ _ _; rw [marked_zero]; exact HG.out⟩
  case round =>
    obtain ⟨k, L, hk, rfl, rfl, hL, HS, hbel, HR⟩ := hrel
    obtain ⟨m, hm⟩ : ∃ m, m = q + k := ⟨_, rfl⟩
    have HM : Hid (m = q + k) := hm
    rw [← hm] at hk HS ⊢
    clear hm
    by_cases hlt : m < s.size
    · have h256 : s[m].toNat < 256 := UInt8.toNat_lt _
      by_cases h1 : (s[m].toNat : Int) - 48 < (L : Int)
      · go_wp2_with fail
        go_ret
        have h := HS.out
        have := scan_no s 53 (L + 48) m hlt (by omega)
        have hm := HM.out
        exact ⟨ret_int (by omega), hbel, by rw [show scan 53 48 (tl s q) = k from by omega]; exact HR.out⟩
      · by_cases h2 : (6 : Int) ≤ (s[m].toNat : Int) - 48
        · go_wp2_with fail
          go_ret
          have h := HS.out
          have := scan_no s 53 (L + 48) m hlt (by omega)
          have hm := HM.out
          exact ⟨ret_int (by omega), hbel, by rw [show scan 53 48 (tl s q) = k from by omega]; exact HR.out⟩
        · obtain ⟨d, hd⟩ : ∃ d, s[m].toNat = d + 48 := ⟨s[m].toNat - 48, by omega⟩
          have h3 : d < 6 := by omega
          have HD : Hid (byteAt s (q + k) = d + 48) := by show _ = _; rw [← HM.out, byteAt_lt hlt]; exact hd
          have HY : Hid (scan 53 (L + 48) (tl s m) = scan 53 (d + 48 + 1) (tl s (m + 1)) + 1) := by
            show _ = _
            rw [scan_yes s 53 (L + 48) m hlt (by omega) (by omega), hd]
          have hcn := HR.out.cn
          have hmx := HR.out.mx c d hc h3
          have hfz := HR.out.fz (9 + c * 6 + d) (by omega)
          go_wp2_with fail
          go_region
          go_wp2
          go_roundw
          case rel =>
            have h := HS.out
            have h' := HY.out
            have hm := HM.out
            refine ⟨k + 1, d + 1, by omega, by go_num, by go_num, by omega, ?_, (hbel.setCell (by simp) _).drew, ?_⟩
            · show _ = _
              rw [show d + 1 + 48 = d + 48 + 1 from by omega, show q + (k + 1) = m + 1 from by omega]
              omega
            · show Gr _ _ _ _ _
              rw [← marked_succ s q c M k d HD.out]
              exact (HR.out.set c d hc h3).drew
          case measure => simp [intOf]; omega
    · go_wp2_with fail
      go_ret
      have h := HS.out
      have := scan_end s 53 (L + 48) m (by omega)
      have hm := HM.out
      exact ⟨ret_int (by omega), hbel, by rw [show scan 53 48 (tl s q) = k from by omega]; exact HR.out⟩

end Go.Proofs.Ytcfbfdjmcabnkaa

namespace Go.Proofs.Ytcfbfdjmcabnkaa
open Go.RowKit Fw
set_option linter.unusedVariables false

theorem stands_62 (s : ByteArray) (p : Nat) (w : World) (hs : s.size ≤ 210) (hp : p ≤ 211) :
    Calls Try.prog 78 #[.string s, .int .i64 p, .int .u8 62] w fun e w' => e = .returned (.bool (isAt s p 62)) ∧ w' = w := stands_any s p 62 w hs hp (by omega)
theorem stands_59 (s : ByteArray) (p : Nat) (w : World) (hs : s.size ≤ 210) (hp : p ≤ 211) :
    Calls Try.prog 78 #[.string s, .int .i64 p, .int .u8 59] w fun e w' => e = .returned (.bool (isAt s p 59)) ∧ w' = w := stands_any s p 59 w hs hp (by omega)

theorem skip_arrow (s : ByteArray) (p : Nat) (w : World) (hs : s.size ≤ 210) (hp : p ≤ s.size) :
    Calls Try.prog 45 #[.string s, .int .i64 p] w fun e w' => e = .returned (.int .i64 (arrow s p : Nat)) ∧ w' = w := skip_any s p w hs hp

theorem readNext_stop (s : ByteArray) (b p c : Nat) (M : Nat → Nat → Bool) (K : Nat → ByteArray) (w : World) (hs : s.size ≤ 210) (hq : arrow s p + 1 ≤ s.size) (hc : c < 6) (hg : Gr w b c M K) :
    Calls Try.prog 80 #[.pointer (some ⟨b, 0, none⟩), .string s, .int .i64 ((arrow s p : Int) + 1)] w fun e w' => e = .returned (.int .i64 (stop s p : Nat)) ∧ Below b w w' ∧ Gr w' b c (marked s (arrow s p + 1) c M (many s p)) K :=
  readNext_any s b (arrow s p + 1) c M K w hs hq hc hg

set_option maxRecDepth 100000 in
set_option maxHeartbeats 1000000 in
theorem readState_any (s : ByteArray) (b p c : Nat) (M : Nat → Nat → Bool) (K : Nat → ByteArray) (w : World) (hs : s.size ≤ 210) (hp : p ≤ s.size) (hc : c < 6) (HG : Hid (Gr w b c M K)) :
    Calls Try.prog 64 #[.pointer (some ⟨b, 0, none⟩), .string s, .int .i64 p] w fun e w' => Below b w w' ∧
      ((isAt s (arrow s p) 62 = false ∧ e = .returned (.tuple #[.int .i64 (arrow s p : Nat), .bool false])) ∨
       (isAt s (arrow s p) 62 = true ∧ isAt s (stop s p) 59 = false ∧ e = .returned (.tuple #[.int .i64 (stop s p : Nat), .bool false])) ∨
       (isAt s (arrow s p) 62 = true ∧ isAt s (stop s p) 59 = true ∧ e = .returned (.tuple #[.int .i64 ((stop s p + 1 : Nat) : Int), .bool true]) ∧ Gr w' b (c + 1) (marked s (arrow s p + 1) c M (many s p)) (fun x => if x = c then s.extract p (arrow s p) else K x))) := by
  have ha := arrow_le (s := s) hp
  go_enter Try.func64, Try.ntmps64
  go_wp2_with fail
  refine (skip_arrow s p _ hs hp).mono ?_
  rintro e w1 ⟨rfl, rfl⟩
  go_wp2_with fail
  refine (stands_62 s _ _ hs (by omega)).mono ?_
  rintro e w1 ⟨rfl, rfl⟩
  cases hA : isAt s (arrow s p) 62 with
  | false =>
    go_wp2_with fail
    go_ret2
    exact ⟨Below.refl _ _, .inl ⟨hA, rfl⟩⟩
  | true =>
    have hal := isAt_lt hA
    have hst := stop_le hal
    go_wp2_with fail
    refine (readNext_stop s b p c M K _ hs (by omega) hc HG.out).mono ?_
    rintro e w2 ⟨rfl, hbel, hg⟩
    have HG2 : Hid (Gr w2 b c (marked s (arrow s p + 1) c M (many s p)) K) := hg
    clear hg
    go_wp2_with fail
    refine (stands_59 s _ _ hs (by omega)).mono ?_
    rintro e w3 ⟨rfl, rfl⟩
    cases hB : isAt s (stop s p) 59 with
    | false =>
      go_wp2_with fail
      go_ret2
      exact ⟨hbel, .inr (.inl ⟨by first | exact hA | rfl, hB, rfl⟩)⟩
    | true =>
      have hcn := HG2.out.cn
      have hfz := HG2.out.fz 2 (by omega)
      have hmk := HG2.out.ms c hc
      have hfm := HG2.out.fz (3 + c) (by omega)
      have hle := le_arrow s p
      go_wp2_with fail
      go_region
      go_wp2_with fail
      go_ret2
      exact ⟨(hbel.setCell (by simp) _).drew.setCell (by simp) _, .inr (.inr ⟨by first | exact hA | rfl, hB, rfl, (HG2.out.mark c hc _).drew.bump⟩)⟩

/-- the edges of the states that begin there -/
def mat (s : ByteArray) (acc : List Nat) : Nat → Nat → Bool := fun i j =>
  match acc[i]? with
  | some p => (List.range (many s p)).any fun k => byteAt s (arrow s p + 1 + k) == j + 48
  | none => false

theorem mat_snoc (s : ByteArray) (acc : List Nat) (p : Nat) : marked s (arrow s p + 1) acc.length (mat s acc) (many s p) = mat s (acc ++ [p]) := by
  funext i j
  unfold marked mat
  by_cases h : i < acc.length
  · have h2 : (i == acc.length) = false := by rw [beq_eq_false_iff_ne]; omega
    rw [List.getElem?_append_left h, h2, Bool.false_and, Bool.or_false]
  · by_cases h3 : i = acc.length
    · subst h3
      simp
    · have h2 : (i == acc.length) = false := by rw [beq_eq_false_iff_ne]; omega
      have h4 : acc[i]? = none := List.getElem?_eq_none (by omega)
      have h5 : (acc ++ [p])[i]? = none := List.getElem?_eq_none (by simp; omega)
      rw [h4, h5, h2]
      simp

theorem mat_some {s : ByteArray} {acc : List Nat} {i p : Nat} (h : acc[i]? = some p) (j : Nat) : mat s acc i j = (List.range (many s p)).any fun k => byteAt s (arrow s p + 1 + k) == j + 48 := by
  unfold mat
  rw [h]

/-- the marks of a state, as a text -/
def mrk (s : ByteArray) (acc : List Nat) (i : Nat) : ByteArray :=
  match acc[i]? with
  | some p => s.extract p (arrow s p)
  | none => ByteArray.empty

theorem mrk_some {s : ByteArray} {acc : List Nat} {i p : Nat} (h : acc[i]? = some p) : mrk s acc i = s.extract p (arrow s p) := by unfold mrk; rw [h]
theorem mrk_none {s : ByteArray} {acc : List Nat} {i : Nat} (h : acc.length ≤ i) : mrk s acc i = ByteArray.empty := by unfold mrk; rw [List.getElem?_eq_none h]
theorem mrk_size (s : ByteArray) (acc : List Nat) (i : Nat) (hs : s.size ≤ 210) : (mrk s acc i).size ≤ 1000 := by
  unfold mrk
  split
  · rw [ByteArray.size_extract]; omega
  · exact Nat.zero_le _

theorem mrk_snoc (s : ByteArray) (acc : List Nat) (p : Nat) : (fun x => if x = acc.length then s.extract p (arrow s p) else mrk s acc x) = mrk s (acc ++ [p]) := by
  funext x
  by_cases h : x = acc.length
  · subst h
    rw [if_pos rfl, mrk_some (p := p) (by simp)]
  · rw [if_neg h]
    unfold mrk
    by_cases h2 : x < acc.length
    · rw [List.getElem?_append_left h2]
    · rw [List.getElem?_eq_none (by omega), List.getElem?_eq_none (by simp; omega)]

set_option maxRecDepth 100000 in
set_option maxHeartbeats 1000000 in
theorem readStates_any (s : ByteArray) (b : Nat) (w : World) (hs : s.size ≤ 210) (HG : Hid (Gr w b 0 (mat s []) (mrk s []))) :
    Calls Try.prog 43 #[.pointer (some ⟨b, 0, none⟩), .string s] w fun e w' => Below b w w' ∧
      (((run s 6 0).1 = false ∧ e = .returned (.tuple #[.int .i64 ((run s 6 0).2.1 : Nat), .bool false])) ∨
       ((run s 6 0).1 = true ∧ ∃ q : Nat, e = .returned (.tuple #[.int .i64 q, .bool true]) ∧ Gr w' b (run s 6 0).2.2.length (mat s (run s 6 0).2.2) (mrk s (run s 6 0).2.2))) := by
  go_enter Try.func43, Try.ntmps43
  go_wp2
  go_loopw [6] (fun q wr => ∃ (acc : List Nat) (p : Nat), p ≤ s.size ∧ q = .int .i64 p ∧ acc.length ≤ 6 ∧ Below b w wr ∧ Hid (Gr wr b acc.length (mat s acc) (mrk s acc)) ∧ Hid ((p < s.size ∨ acc = []) ∧ Inv s acc p)) (fun q _ => s.size + 1 - (intOf q).toNat)
  case atStart => exact ⟨[], 0, by omega, rfl, by simp, Below.refl _ _, HG, .inr rfl, inv_start s⟩
  case round =>
    obtain ⟨acc, p, hp, rfl, hlen, hbel, HR, HI⟩ := hrel
    have hcn := HR.out.cn
    by_cases h6 : acc.length < 6
    · go_wp2_with fail
      refine (readState_any s b p acc.length (mat s acc) (mrk s acc) _ hs hp h6 HR).mono ?_
      rintro e w1 ⟨hb1, ⟨hA, rfl⟩ | ⟨hA, hB, rfl⟩ | ⟨hA, hB, rfl, hg⟩⟩
      · have HA : Hid (isAt s (arrow s p) 62 = false) := hA
        clear hA
        go_wp2_with fail
        go_ret2
        have h := inv_arrow HI.out.2 HI.out.1 h6 HA.out
        exact ⟨hbel.trans hb1, .inl ⟨h.1, by rw [h.2]; rfl⟩⟩
      · have HA : Hid (isAt s (arrow s p) 62 = true) := hA
        have HB : Hid (isAt s (stop s p) 59 = false) := hB
        clear hA hB
        go_wp2_with fail
        go_ret2
        have h := inv_stop HI.out.2 HI.out.1 h6 HA.out HB.out
        exact ⟨hbel.trans hb1, .inl ⟨h.1, by rw [h.2]; rfl⟩⟩
      · have HA : Hid (isAt s (arrow s p) 62 = true) := hA
        have HB : Hid (isAt s (stop s p) 59 = true) := hB
        rw [mat_snoc, mrk_snoc] at hg
        have HG2 : Hid (Gr w1 b (acc.length + 1) (mat s (acc ++ [p])) (mrk s (acc ++ [p]))) := hg
        have hsl := isAt_lt hB
        have hsp := lt_stop s p
        have hap := le_arrow s p
        clear hA hB hg
        have HN := inv_next HI.out.2 HI.out.1 h6 HA.out HB.out
        have HN2 : Hid (Inv s (acc ++ [p]) (stop s p + 1)) := HN
        clear HN
        by_cases he : stop s p + 1 = s.size
        · have he' : ((((stop s p + 1 : Nat) : Int)) == (s.size : Int)) = true := by rw [beq_iff_eq]; omega
          have HE : Hid (stop s p + 1 = s.size) := he
          clear he
          go_wp2_with fail
          go_ret2
          have h := inv_end HN2.out (by have := HE.out; omega) (by simp)
          refine ⟨hbel.trans hb1, .inr ⟨by rw [h], stop s p + 1, by first | rfl | (rw [HE.out]; rfl), ?_⟩⟩
          rw [h]
          simpa using HG2.out
        · have he' : ((((stop s p + 1 : Nat) : Int)) == (s.size : Int)) = false := by rw [beq_eq_false_iff_ne]; omega
          go_wp2_with fail
          go_roundw
          case rel =>
            exact ⟨acc ++ [p], stop s p + 1, by omega, by go_num, by simp; omega, hbel.trans hb1, by show Gr _ _ _ _ _; simpa using HG2.out, .inl (by omega), HN2.out⟩
          case measure => simp [intOf]; omega
    · have h6' : acc.length = 6 := by omega
      have H6 : Hid (acc.length = 6) := h6'
      clear h6'
      go_wp2_with fail
      go_ret2
      have h := inv_full HI.out.2 HI.out.1 H6.out
      exact ⟨hbel, .inl ⟨h.1, by rw [h.2]; rfl⟩⟩

end Go.Proofs.Ytcfbfdjmcabnkaa

namespace Go.Proofs.Ytcfbfdjmcabnkaa
open Go.RowKit Fw
set_option linter.unusedVariables false

theorem astB_of_mat {s : ByteArray} {acc : List Nat} {i p k : Nat} (h : acc[i]? = some p) (n : Nat) (hn : n ≤ k) (hm : mat s acc i k = true) : astB s n p = true := by
  rw [mat_some h, List.any_eq_true] at hm
  obtain ⟨x, hx, hb⟩ := hm
  rw [beq_iff_eq] at hb
  exact astB_yes (List.mem_range.1 hx) (by omega)

theorem astB_of_none {s : ByteArray} {acc : List Nat} {i p : Nat} (h : acc[i]? = some p) (n : Nat) (hm : ∀ k, n ≤ k → k < 6 → mat s acc i k = false) : astB s n p = false := by
  refine astB_no fun x hx hb => ?_
  obtain ⟨hl, h1, h2⟩ := byte_range s 53 48 (arrow s p + 1) x hx
  rw [byteAt_lt hl] at hb
  have := hm (s[arrow s p + 1 + x].toNat - 48) (by omega) (by omega)
  rw [mat_some h, Bool.eq_false_iff] at this
  apply this
  rw [List.any_eq_true]
  refine ⟨x, List.mem_range.2 hx, ?_⟩
  rw [beq_iff_eq, byteAt_lt hl]
  omega

set_option maxRecDepth 100000 in
set_option maxHeartbeats 1000000 in
theorem astray_any (s : ByteArray) (b : Nat) (acc : List Nat) (w : World) (hlen : acc.length ≤ 6) (HG : Hid (Gr w b acc.length (mat s acc) (mrk s acc))) :
    Calls Try.prog 44 #[.pointer (some ⟨b, 0, none⟩)] w fun e w' => w' = w ∧
      ((firstBad s acc.length 0 acc = none ∧ e = .returned (.tuple #[.int .i64 0, .bool false])) ∨
       ∃ i : Nat, firstBad s acc.length 0 acc = some i ∧ e = .returned (.tuple #[.int .i64 i, .bool true])) := by
  have hcn := HG.out.cn
  go_enter Try.func44, Try.ntmps44
  go_wp2
  go_loop [4] (fun q => ∃ i : Nat, i ≤ acc.length ∧ q = .int .i64 i ∧ Hid (firstBad s acc.length 0 acc = firstBad s acc.length i (acc.drop i))) (fun q => acc.length - (intOf q).toNat)
  case atStart => exact ⟨0, by omega, rfl, rfl⟩
  case round =>
    obtain ⟨i, hi, rfl, HF⟩ := hrel
    by_cases hlt : i < acc.length
    · obtain ⟨p, HP⟩ : ∃ p, Hid (acc[i]? = some p) := ⟨_, List.getElem?_eq_getElem hlt⟩
      go_wp2_with fail
      go_loop [5] (fun q => ∃ k : Nat, acc.length ≤ k ∧ k ≤ 6 ∧ q = .int .i64 k ∧ Hid (∀ j, acc.length ≤ j → j < k → mat s acc i j = false)) (fun q => 6 - (intOf q).toNat)
      case atStart => exact ⟨acc.length, by omega, hlen, rfl, fun j h1 h2 => by omega⟩
      case round =>
        obtain ⟨k, hk1, hk2, rfl, HN⟩ := hrel
        by_cases hk : k < 6
        · have hmx := HG.out.mx i k (by omega) hk
          cases hm : mat s acc i k with
          | true =>
            rw [hm] at hmx
            have HM : Hid (mat s acc i k = true) := hm
            clear hm
            go_wp2_with fail
            go_ret2
            exact ⟨rfl, .inr ⟨i, firstBad_yes HP.out HF.out (astB_of_mat HP.out _ hk1 HM.out), rfl⟩⟩
          | false =>
            rw [hm] at hmx
            have HM : Hid (mat s acc i k = false) := hm
            clear hm
            go_wp2_with fail
            go_round
            case rel =>
              refine ⟨k + 1, by omega, by omega, by go_num, ?_⟩
              intro j h1 h2
              by_cases e : j = k
              · subst e; exact HM.out
              · exact HN.out j h1 (by omega)
            case measure => simp [intOf]; omega
        · go_wp2_with fail
          go_round
          case rel =>
            exact ⟨i + 1, by omega, by go_num, firstBad_step HP.out HF.out (astB_of_none HP.out _ fun j h1 h2 => HN.out j h1 (by omega))⟩
          case measure => simp [intOf]; omega
    · go_wp2_with fail
      go_ret2
      exact ⟨rfl, .inl ⟨firstBad_end (by omega) HF.out, rfl⟩⟩

end Go.Proofs.Ytcfbfdjmcabnkaa

namespace Go.Proofs.Ytcfbfdjmcabnkaa
open Go.RowKit Fw
set_option linter.unusedVariables false

theorem Try.size55 : (Try.prog.info? 55).map (·.size) = some 45 := by kernel_rfl
theorem Try.row55 : ∃ d, Try.prog.underlying 55 = some d ∧ d.isRow = true := ⟨_, Try.underlying55, rfl⟩

theorem below_setCells (b : Nat) : ∀ (vs : List Value) (o : Nat) (w : World), Below b w (w.setCells b o vs)
  | [], _, w => Below.refl _ _
  | v :: r, o, w => ((Below.refl b w).setCell (p := ⟨b, o, none⟩) (Nat.le_refl _) v).trans (below_setCells b r (o + 1) _)

theorem block_setCells (b : Nat) : ∀ (vs : List Value) (o : Nat) (w : World) (k : Nat), k ≠ b → (w.setCells b o vs).heap[k]? = w.heap[k]?
  | [], _, w, _, _ => rfl
  | v :: r, o, w, k, h => (block_setCells b r (o + 1) _ k h).trans (Below.heap_setCell _ _ _ _ h)

theorem size_setCells (b : Nat) : ∀ (vs : List Value) (o : Nat) (w : World), (w.setCells b o vs).heap.size = w.heap.size
  | [], _, w => rfl
  | v :: r, o, w => (size_setCells b r (o + 1) _).trans (by simp)

/-- a struct of 45 cells stored whole; the world behind it a letter -/
theorem store49 {ops : Array Oper} {rest : List Oper} {op : Oper} {a : Act} {w : World} {Q : Exit → Act → World → Prop} (hgd : op.guard = none) (x y : Operand) (ho : op.op = .store 55 x y)
    (b : Nat) (cells : Array Value) (hx : a.eval x = .pointer (some ⟨b, 0, none⟩)) (hy : a.eval y = .agg cells)
    (ht : w.there b 0 45) (hi : cells.size = 45) (h1 : cells.all (·.oneCell') = true)
    (h : ∀ w', Below b w w' → w'.heap.size = w.heap.size → (∀ k, k ≠ b → w'.heap[k]? = w.heap[k]?) → w'.rangeAt b 0 cells.toList → wpList Try.prog ops Q rest (a.put op.dst undef) w') : wpList Try.prog ops Q (op :: rest) a w := by
  refine wpList_store_mid hgd 55 x y ho b 0 cells hx hy (by rw [hi]; exact ht) (by rw [hi]; exact Try.size55) h1 ?_
  refine h _ (below_setCells b _ _ _) (size_setCells b _ _ _) (block_setCells b _ _ _) ?_
  exact World.rangeAt_setCells_same _ _ _ _ (by simpa [hi] using ht)

theorem load49 {ops : Array Oper} {rest : List Oper} {op : Oper} {a : Act} {w : World} {Q : Exit → Act → World → Prop} (hgd : op.guard = none) (x : Operand) (ho : op.op = .load 55 x)
    (b : Nat) (hx : a.eval x = .pointer (some ⟨b, 0, none⟩)) (cs : List Value) (hc : w.rangeAt b 0 cs) (hl : cs.length = 45)
    (h : wpList Try.prog ops Q rest (a.put op.dst (.agg cs.toArray)) w) : wpList Try.prog ops Q (op :: rest) a w := by
  obtain ⟨d, hu, hd⟩ := Try.row55
  exact wpList_load_mid hgd 55 x ho b 0 hx cs d hc hu hd (by rw [hl]; exact Try.size55) h

theorem there_new (w : World) (C : Array Value) (t : TypeId) (h : C.size = 45) : (w.alloc (.cells C t)).there w.heap.size 0 45 := by
  intro j hj
  have hb := heap_alloc_new w (.cells C t)
  refine ⟨?_, ?_⟩
  · rw [cell_of_row _ _ _ _ _ _ hb]
    simp
    omega
  · exact frozen_of_row _ _ _ _ _ hb

def zero49 : Array Value := #[.int .i64 0, .int .i64 0, .int .i64 0, .string ByteArray.empty, .string ByteArray.empty, .string ByteArray.empty, .string ByteArray.empty, .string ByteArray.empty, .string ByteArray.empty] ++ Array.replicate 36 (.bool false)

theorem zero49_is : (#[.int .i64 0, .int .i64 0, .int .i64 0, .string ByteArray.empty, .string ByteArray.empty, .string ByteArray.empty, .string ByteArray.empty, .string ByteArray.empty, .string ByteArray.empty, .bool false, .bool false, .bool false, .bool false, .bool false, .bool false, .bool false, .bool false, .bool false, .bool false, .bool false, .bool false, .bool false, .bool false, .bool false, .bool false, .bool false, .bool false, .bool false, .bool false, .bool false, .bool false, .bool false, .bool false, .bool false, .bool false, .bool false, .bool false, .bool false, .bool false, .bool false, .bool false, .bool false, .bool false, .bool false, .bool false] : Array Value) = zero49 := rfl

theorem gr_new (w : World) (s : ByteArray) : Gr (w.alloc (.cells #[.int .i64 0, .int .i64 0, .int .i64 0, .string ByteArray.empty, .string ByteArray.empty, .string ByteArray.empty, .string ByteArray.empty, .string ByteArray.empty, .string ByteArray.empty, .bool false, .bool false, .bool false, .bool false, .bool false, .bool false, .bool false, .bool false, .bool false, .bool false, .bool false, .bool false, .bool false, .bool false, .bool false, .bool false, .bool false, .bool false, .bool false, .bool false, .bool false, .bool false, .bool false, .bool false, .bool false, .bool false, .bool false, .bool false, .bool false, .bool false, .bool false, .bool false, .bool false, .bool false, .bool false, .bool false] 55)) w.heap.size 0 (mat s []) (mrk s []) := by
  rw [zero49_is]
  have hb := heap_alloc_new w (.cells zero49 55)
  refine ⟨by simp, ?_, ?_, ?_, ?_, ?_, ?_⟩
  · rw [cell_of_row _ _ _ _ _ _ hb]; rfl
  · rw [cell_of_row _ _ _ _ _ _ hb]; rfl
  · rw [cell_of_row _ _ _ _ _ _ hb]; rfl
  · intro i hi
    rw [cell_of_row _ _ _ _ _ _ hb, mrk_none (by simp)]
    have : i = 0 ∨ i = 1 ∨ i = 2 ∨ i = 3 ∨ i = 4 ∨ i = 5 := by omega
    rcases this with rfl | rfl | rfl | rfl | rfl | rfl <;> rfl
  · intro i j hi hj
    rw [cell_of_row _ _ _ _ _ _ hb]
    have h1 : mat s [] i j = false := by simp [mat]
    rw [h1]
    unfold zero49
    rw [Array.getElem?_append_right (by simp; omega), Array.getElem?_replicate]
    simp
    omega
  · intro o ho
    exact frozen_of_row _ _ _ _ _ hb

/-- the result that lies in a struct of 45 cells -/
theorem result49 (tmps : Array Value) (w : World) (b : Nat) (cs : List Value) (hp : tmps.getD 2 undef = .pointer (some ⟨b, 0, none⟩)) (hc : w.rangeAt b 0 cs) (hl : cs.length = 45) :
    (results Try.f34 tmps).run Try.prog w = .ok (.agg cs.toArray) w := by
  obtain ⟨d, hu, hd⟩ := Try.row55
  have hp' : tmps[2]?.getD undef = .pointer (some ⟨b, 0, none⟩) := by simpa using hp
  simp [results, Try.results34, hp', asAddr, run_loadVar_mid w b 0 55 cs d hc hu hd (by rw [hl]; exact Try.size55)]

end Go.Proofs.Ytcfbfdjmcabnkaa

namespace Go.Proofs.Ytcfbfdjmcabnkaa
open Go.RowKit Fw
set_option linter.unusedVariables false

def rest43 : List Value := .int .i64 0 :: (List.replicate 6 (.string ByteArray.empty) ++ List.replicate 36 (.bool false))

def cells45 (e p : Int) : Array Value := (Value.int .i64 e :: .int .i64 p :: rest43).toArray

theorem built1 : Try.prog.built 55 [(0, .int .i64 1)] = some (cells45 1 0) := by kernel_rfl
theorem built2 (p : Int) : Try.prog.built 55 [(0, .int .i64 2), (1, .int .i64 p)] = some (cells45 2 p) := by kernel_rfl
theorem built3 (p : Int) : Try.prog.built 55 [(0, .int .i64 3), (1, .int .i64 p)] = some (cells45 3 p) := by kernel_rfl
theorem rest43_one : ∀ v ∈ rest43, v.oneCell' = true := by
  intro v hv
  simp only [rest43, List.mem_cons, List.mem_append, List.mem_replicate] at hv
  rcases hv with rfl | ⟨_, rfl⟩ | ⟨_, rfl⟩ <;> rfl
theorem cells45_size (e p : Int) : (cells45 e p).size = 45 := rfl
theorem cells45_list (e p : Int) : (cells45 e p).toList = Value.int .i64 e :: .int .i64 p :: rest43 := rfl
theorem rest43_len : rest43.length = 43 := rfl

theorem build49 {ops : Array Oper} {rest : List Oper} {o : Oper} {a : Act} {w : World} {Q : Exit → Act → World → Prop} (hgd : o.guard = none) (parts : Array (Nat × Operand)) (ho : o.op = .build 55 parts)
    (vals : List (Nat × Value)) (hv : (parts.map fun (i, x) => (i, a.eval x)).toList = vals) (cells : Array Value) (hb : Try.prog.built 55 vals = some cells)
    (h : wpList Try.prog ops Q rest (a.put o.dst (.agg cells)) w) : wpList Try.prog ops Q (o :: rest) a w := by
  refine wpList_build hgd 55 parts ho (by rw [hv, hb]; rfl) ?_
  rw [hv, hb]
  exact h

theorem build49a {ops : Array Oper} {rest : List Oper} {o : Oper} {a : Act} {w : World} {Q : Exit → Act → World → Prop} (hgd : o.guard = none) (ho : o.op = .build 55 #[(0, .const (.int .i64 1))])
    (h : wpList Try.prog ops Q rest (a.put o.dst (.agg (cells45 1 0))) w) : wpList Try.prog ops Q (o :: rest) a w :=
  build49 hgd _ ho [(0, .int .i64 1)] (by simp [Act.eval]) _ built1 h

theorem build49b {ops : Array Oper} {rest : List Oper} {o : Oper} {a : Act} {w : World} {Q : Exit → Act → World → Prop} (hgd : o.guard = none) (x : Operand) (ho : o.op = .build 55 #[(0, .const (.int .i64 2)), (1, x)])
    (p : Int) (hx : a.eval x = .int .i64 p)
    (h : wpList Try.prog ops Q rest (a.put o.dst (.agg (cells45 2 p))) w) : wpList Try.prog ops Q (o :: rest) a w :=
  build49 hgd _ ho [(0, .int .i64 2), (1, .int .i64 p)] (by simp [Act.eval] at hx ⊢; exact hx) _ (built2 p) h

theorem build49c {ops : Array Oper} {rest : List Oper} {o : Oper} {a : Act} {w : World} {Q : Exit → Act → World → Prop} (hgd : o.guard = none) (x : Operand) (ho : o.op = .build 55 #[(0, .const (.int .i64 3)), (1, x)])
    (p : Int) (hx : a.eval x = .int .i64 p)
    (h : wpList Try.prog ops Q rest (a.put o.dst (.agg (cells45 3 p))) w) : wpList Try.prog ops Q (o :: rest) a w :=
  build49 hgd _ ho [(0, .int .i64 3), (1, .int .i64 p)] (by simp [Act.eval] at hx ⊢; exact hx) _ (built3 p) h

theorem size_cons43 (a b : Value) (cs : List Value) (h : cs.length = 43) : (a :: b :: cs).toArray.size = 45 := by simp [h]
theorem one_cons43 (a b : Value) (cs : List Value) (ha : a.oneCell' = true) (hb : b.oneCell' = true) (h : ∀ v ∈ cs, v.oneCell' = true) : (a :: b :: cs).toArray.all (·.oneCell') = true := by
  refine all_oneCell_toArray fun v hv => ?_
  simp only [List.mem_cons] at hv
  rcases hv with rfl | rfl | hv
  · exact ha
  · exact hb
  · exact h v hv

theorem cells45_one (e p : Int) : (cells45 e p).all (·.oneCell') = true := one_cons43 _ _ _ rfl rfl rest43_one

end Go.Proofs.Ytcfbfdjmcabnkaa

namespace Go.Proofs.Ytcfbfdjmcabnkaa
open Go.RowKit Fw
set_option linter.unusedVariables false

set_option maxRecDepth 100000 in
set_option maxHeartbeats 1000000 in
theorem loadGraph_long (s : ByteArray) (w : World) (hs : ¬ s.size ≤ 210) :
    Calls Try.prog 34 #[.string s] w fun e w' => (∃ cs : List Value, e = .returned (.agg (.int .i64 1 :: .int .i64 0 :: cs).toArray) ∧ cs.length = 43 ∧ ∀ v ∈ cs, v.oneCell' = true) ∧ Below w.heap.size w w' := by
  have h : (210 : Int) < (s.size : Int) := by omega
  go_enter Try.func34, Try.ntmps34
  go_wp2_with (first | (refine build49a (by rfl) (by rfl) ?_) | (refine store49 (by rfl) _ _ (by rfl) w.heap.size (cells45 1 0) (by rfl) (by rfl) (there_new _ _ _ rfl) (cells45_size _ _) (cells45_one _ _) ?_; intro w1 hb1 hz1 hk1 hr1))
  exact bodyPost_ret (v := .agg (cells45 1 0)) (result49 _ _ w.heap.size _ rfl hr1 rfl) rfl ⟨⟨rest43, rfl, rfl, rest43_one⟩, ((Below.refl _ _).alloc (Nat.le_refl _) _).trans hb1⟩

theorem gr_new2 (w : World) (o : Obj) (s : ByteArray) : Gr ((w.alloc o).alloc (.cells #[.int .i64 0, .int .i64 0, .int .i64 0, .string ByteArray.empty, .string ByteArray.empty, .string ByteArray.empty, .string ByteArray.empty, .string ByteArray.empty, .string ByteArray.empty, .bool false, .bool false, .bool false, .bool false, .bool false, .bool false, .bool false, .bool false, .bool false, .bool false, .bool false, .bool false, .bool false, .bool false, .bool false, .bool false, .bool false, .bool false, .bool false, .bool false, .bool false, .bool false, .bool false, .bool false, .bool false, .bool false, .bool false, .bool false, .bool false, .bool false, .bool false, .bool false, .bool false, .bool false, .bool false, .bool false] 55)) (w.heap.size + 1) 0 (mat s []) (mrk s []) := by
  have h := gr_new (w.alloc o) s
  rw [show (w.alloc o).heap.size = w.heap.size + 1 from by simp] at h
  exact h

theorem there_below {w w' : World} {B b n : Nat} (h : Below B w w') (hb : b < B) (ht : w.there b 0 n) : w'.there b 0 n := by
  intro j hj
  rw [h.cell (p := ⟨b, 0 + j, none⟩) hb, h.frozen (p := ⟨b, 0 + j, none⟩) hb]
  exact ht j hj

def grCells (c : Nat) (M : Nat → Nat → Bool) (K : Nat → ByteArray) : List Value := .int .i64 (c : Int) :: (((List.range 6).map fun k => .string (K k)) ++ (List.range 36).map fun k => .bool (M (k / 6) (k % 6)))

theorem grCells_len (c : Nat) (M : Nat → Nat → Bool) (K : Nat → ByteArray) : (grCells c M K).length = 43 := by simp [grCells]

theorem grCells_one (c : Nat) (M : Nat → Nat → Bool) (K : Nat → ByteArray) : ∀ v ∈ grCells c M K, v.oneCell' = true := by
  intro v hv
  simp only [grCells, List.mem_cons, List.mem_append, List.mem_map] at hv
  rcases hv with rfl | ⟨k, _, rfl⟩ | ⟨k, _, rfl⟩ <;> rfl

theorem grCells_mark (c : Nat) (M : Nat → Nat → Bool) (K : Nat → ByteArray) (i : Nat) (hi : i < 6) : (grCells c M K)[1 + i]? = some (.string (K i)) := by
  unfold grCells
  rw [show 1 + i = i + 1 from by omega, List.getElem?_cons_succ, List.getElem?_append_left (by simp; omega), List.getElem?_map, List.getElem?_range hi]
  rfl
theorem grCells_edge (c : Nat) (M : Nat → Nat → Bool) (K : Nat → ByteArray) (i j : Nat) (hi : i < 6) (hj : j < 6) : (grCells c M K)[7 + i * 6 + j]? = some (.bool (M i j)) := by
  unfold grCells
  rw [show 7 + i * 6 + j = (6 + (i * 6 + j)) + 1 from by omega, List.getElem?_cons_succ, List.getElem?_append_right (by simp), List.getElem?_map]
  simp only [List.length_map, List.length_range]
  rw [show 6 + (i * 6 + j) - 6 = i * 6 + j from by omega, List.getElem?_range (by omega)]
  simp only [Option.map_some]
  rw [show (i * 6 + j) / 6 = i from by omega, show (i * 6 + j) % 6 = j from by omega]

theorem Gr.range {w : World} {b c : Nat} {M : Nat → Nat → Bool} {K : Nat → ByteArray} (h : Gr w b c M K) : w.rangeAt b 0 (.int .i64 0 :: .int .i64 0 :: grCells c M K) := by
  intro j v hv
  match j, hv with
  | 0, hv => simp at hv; subst hv; exact h.e0
  | 1, hv => simp at hv; subst hv; exact h.e1
  | 2, hv => simp [grCells] at hv; subst hv; exact h.cn
  | j + 3, hv =>
    have hj : j < 42 := by
      have := (List.getElem?_eq_some_iff.1 hv).1
      simp [grCells] at this
      omega
    rw [List.getElem?_cons_succ, List.getElem?_cons_succ] at hv
    by_cases h6 : j < 6
    · rw [show j + 1 = 1 + j from by omega, grCells_mark c M K j h6] at hv
      injection hv with hv
      subst hv
      have := h.ms j h6
      rw [show 3 + j = 0 + (j + 3) from by omega] at this
      exact this
    · rw [show j + 1 = 7 + (j - 6) / 6 * 6 + (j - 6) % 6 from by omega, grCells_edge c M K _ _ (by omega) (by omega)] at hv
      injection hv with hv
      subst hv
      have := h.mx ((j - 6) / 6) ((j - 6) % 6) (by omega) (by omega)
      rw [show 9 + (j - 6) / 6 * 6 + (j - 6) % 6 = 0 + (j + 3) from by omega] at this
      exact this

theorem there_new2 (w : World) (C D : Array Value) (t u : TypeId) (h : C.size = 45) : ((w.alloc (.cells C t)).alloc (.cells D u)).there w.heap.size 0 45 := World.there_alloc (there_new w C t h) _

theorem below2 (w : World) (o p : Obj) : Below w.heap.size w ((w.alloc o).alloc p) := ((Below.refl _ _).alloc (Nat.le_refl _) _).alloc (by simp) _

set_option maxRecDepth 100000 in
set_option maxHeartbeats 1000000 in
theorem loadGraph_any (s : ByteArray) (w : World) (hs : s.size ≤ 210) :
    Calls Try.prog 34 #[.string s] w fun e w' => (∃ cs : List Value, e = .returned (.agg (.int .i64 ((chk s).1 : Nat) :: .int .i64 ((chk s).2 : Nat) :: cs).toArray) ∧ cs.length = 43 ∧ (∀ v ∈ cs, v.oneCell' = true) ∧ ((chk s).1 = 0 → cs = grCells (run s 6 0).2.2.length (mat s (run s 6 0).2.2) (mrk s (run s 6 0).2.2))) ∧ Below w.heap.size w w' := by
  go_enter Try.func34, Try.ntmps34
  go_wp2_with fail
  have HG : Hid (Gr _ _ 0 (mat s []) (mrk s [])) := gr_new2 w (.cells #[.int .i64 0, .int .i64 0, .int .i64 0, .string ByteArray.empty, .string ByteArray.empty, .string ByteArray.empty, .string ByteArray.empty, .string ByteArray.empty, .string ByteArray.empty, .bool false, .bool false, .bool false, .bool false, .bool false, .bool false, .bool false, .bool false, .bool false, .bool false, .bool false, .bool false, .bool false, .bool false, .bool false, .bool false, .bool false, .bool false, .bool false, .bool false, .bool false, .bool false, .bool false, .bool false, .bool false, .bool false, .bool false, .bool false, .bool false, .bool false, .bool false, .bool false, .bool false, .bool false, .bool false, .bool false] 55) s
  have HT : Hid (World.there _ w.heap.size 0 45) := there_new2 w #[.int .i64 0, .int .i64 0, .int .i64 0, .string ByteArray.empty, .string ByteArray.empty, .string ByteArray.empty, .string ByteArray.empty, .string ByteArray.empty, .string ByteArray.empty, .bool false, .bool false, .bool false, .bool false, .bool false, .bool false, .bool false, .bool false, .bool false, .bool false, .bool false, .bool false, .bool false, .bool false, .bool false, .bool false, .bool false, .bool false, .bool false, .bool false, .bool false, .bool false, .bool false, .bool false, .bool false, .bool false, .bool false, .bool false, .bool false, .bool false, .bool false, .bool false, .bool false, .bool false, .bool false, .bool false] #[.int .i64 0, .int .i64 0, .int .i64 0, .string ByteArray.empty, .string ByteArray.empty, .string ByteArray.empty, .string ByteArray.empty, .string ByteArray.empty, .string ByteArray.empty, .bool false, .bool false, .bool false, .bool false, .bool false, .bool false, .bool false, .bool false, .bool false, .bool false, .bool false, .bool false, .bool false, .bool false, .bool false, .bool false, .bool false, .bool false, .bool false, .bool false, .bool false, .bool false, .bool false, .bool false, .bool false, .bool false, .bool false, .bool false, .bool false, .bool false, .bool false, .bool false, .bool false, .bool false, .bool false, .bool false] 55 55 rfl
  have HW : Hid (Below w.heap.size w _) := below2 w (.cells #[.int .i64 0, .int .i64 0, .int .i64 0, .string ByteArray.empty, .string ByteArray.empty, .string ByteArray.empty, .string ByteArray.empty, .string ByteArray.empty, .string ByteArray.empty, .bool false, .bool false, .bool false, .bool false, .bool false, .bool false, .bool false, .bool false, .bool false, .bool false, .bool false, .bool false, .bool false, .bool false, .bool false, .bool false, .bool false, .bool false, .bool false, .bool false, .bool false, .bool false, .bool false, .bool false, .bool false, .bool false, .bool false, .bool false, .bool false, .bool false, .bool false, .bool false, .bool false, .bool false, .bool false, .bool false] 55) (.cells #[.int .i64 0, .int .i64 0, .int .i64 0, .string ByteArray.empty, .string ByteArray.empty, .string ByteArray.empty, .string ByteArray.empty, .string ByteArray.empty, .string ByteArray.empty, .bool false, .bool false, .bool false, .bool false, .bool false, .bool false, .bool false, .bool false, .bool false, .bool false, .bool false, .bool false, .bool false, .bool false, .bool false, .bool false, .bool false, .bool false, .bool false, .bool false, .bool false, .bool false, .bool false, .bool false, .bool false, .bool false, .bool false, .bool false, .bool false, .bool false, .bool false, .bool false, .bool false, .bool false, .bool false, .bool false] 55)
  refine (readStates_any s (w.heap.size + 1) _ hs HG).mono ?_
  rintro e w3 ⟨hb3, ⟨hr, rfl⟩ | ⟨hr, q, rfl, hg⟩⟩
  · have HR : Hid ((run s 6 0).1 = false) := hr
    clear hr
    have HT3 : Hid (w3.there w.heap.size 0 45) := there_below hb3 (by omega) HT.out
    have HB3 : Hid (Below w.heap.size w w3) := HW.out.trans (hb3.mono (by omega))
    clear hb3 HT HW HG
    go_wp2_with (first | (refine build49b (by rfl) _ (by rfl) _ (by rfl) ?_) | (refine store49 (by rfl) _ _ (by rfl) w.heap.size (cells45 2 ((run s 6 0).2.1 : Nat)) (by rfl) (by rfl) HT3.out (cells45_size _ _) (cells45_one _ _) ?_; intro w4 hb4 hz4 hk4 hr4))
    exact bodyPost_ret (v := .agg (cells45 2 ((run s 6 0).2.1 : Nat))) (result49 _ _ w.heap.size _ rfl hr4 rfl) rfl ⟨⟨rest43, by rw [chk_fail HR.out]; rfl, rfl, rest43_one, fun h => by rw [chk_fail HR.out] at h; cases h⟩, HB3.out.trans hb4⟩
  · have HR : Hid ((run s 6 0).1 = true) := hr
    clear hr
    have HT3 : Hid (w3.there w.heap.size 0 45) := there_below hb3 (by omega) HT.out
    have HB3 : Hid (Below w.heap.size w w3) := HW.out.trans (hb3.mono (by omega))
    have HG3 : Hid (Gr w3 (w.heap.size + 1) (run s 6 0).2.2.length (mat s (run s 6 0).2.2) (mrk s (run s 6 0).2.2)) := hg
    clear hb3 HT HW HG hg
    have hlen := (run_starts s 6 0 (by omega)).1
    go_wp2_with fail
    refine (astray_any s (w.heap.size + 1) (run s 6 0).2.2 _ hlen HG3).mono ?_
    rintro e w4 ⟨rfl, ⟨hf, rfl⟩ | ⟨i, hf, rfl⟩⟩
    · have HF : Hid (firstBad s (run s 6 0).2.2.length 0 (run s 6 0).2.2 = none) := hf
      clear hf
      go_wp2_with (first | (refine load49 (by rfl) _ (by rfl) (w.heap.size + 1) (by rfl) _ HG3.out.range (by simp [grCells_len]) ?_) | (refine store49 (by rfl) _ _ (by rfl) w.heap.size _ (by rfl) (by rfl) HT3.out (size_cons43 _ _ _ (grCells_len _ _ _)) (one_cons43 _ _ _ rfl rfl (grCells_one _ _ _)) ?_; intro w5 hb5 hz5 hk5 hr5))
      exact bodyPost_ret (v := .agg (Value.int .i64 0 :: .int .i64 0 :: grCells (run s 6 0).2.2.length (mat s (run s 6 0).2.2) (mrk s (run s 6 0).2.2)).toArray) (result49 _ _ w.heap.size _ rfl hr5 (by simp [grCells_len])) rfl ⟨⟨_, by rw [chk_good HR.out HF.out]; rfl, grCells_len _ _ _, grCells_one _ _ _, fun _ => rfl⟩, HB3.out.trans hb5⟩
    · have HF : Hid (firstBad s (run s 6 0).2.2.length 0 (run s 6 0).2.2 = some i) := hf
      clear hf
      go_wp2_with (first | (refine build49c (by rfl) _ (by rfl) _ (by rfl) ?_) | (refine store49 (by rfl) _ _ (by rfl) w.heap.size (cells45 3 (i : Nat)) (by rfl) (by rfl) HT3.out (cells45_size _ _) (cells45_one _ _) ?_; intro w5 hb5 hz5 hk5 hr5))
      exact bodyPost_ret (v := .agg (cells45 3 (i : Nat))) (result49 _ _ w.heap.size _ rfl hr5 rfl) rfl ⟨⟨rest43, by rw [chk_bad HR.out HF.out]; rfl, rfl, rest43_one, fun h => by rw [chk_bad HR.out HF.out] at h; cases h⟩, HB3.out.trans hb5⟩

end Go.Proofs.Ytcfbfdjmcabnkaa

namespace Go.Proofs.Ytcfbfdjmcabnkaa
open Go.RowKit Fw
set_option linter.unusedVariables false

/-- P3, of any text -/
def chkAll (s : ByteArray) : Nat × Nat := if s.size ≤ 210 then chk s else (1, 0)

theorem loadGraph_all (s : ByteArray) (w : World) :
    Calls Try.prog 34 #[.string s] w fun e w' => (∃ cs : List Value, e = .returned (.agg (.int .i64 ((chkAll s).1 : Nat) :: .int .i64 ((chkAll s).2 : Nat) :: cs).toArray) ∧ cs.length = 43 ∧ (∀ v ∈ cs, v.oneCell' = true) ∧ ((chkAll s).1 = 0 → cs = grCells (run s 6 0).2.2.length (mat s (run s 6 0).2.2) (mrk s (run s 6 0).2.2))) ∧ Below w.heap.size w w' := by
  unfold chkAll
  by_cases h : s.size ≤ 210
  · rw [if_pos h]; exact loadGraph_any s w h
  · rw [if_neg h]
    refine (loadGraph_long s w h).mono ?_
    rintro e w' ⟨⟨cs, h1, h2, h3⟩, hb⟩
    exact ⟨⟨cs, h1, h2, h3, fun h => by cases h⟩, hb⟩

end Go.Proofs.Ytcfbfdjmcabnkaa

