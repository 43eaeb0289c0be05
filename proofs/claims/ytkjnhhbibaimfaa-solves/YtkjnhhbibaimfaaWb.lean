import Derived.Test.YtkjnhhbibaimfaaWa
import Derived.Deep.AppendLies
namespace Go.Proofs.Ytkjnhhbibaimfaa
open Go.RowKit Fw
set_option linter.unusedVariables false

/-- a state's two cells: its marks, its next states -/
def two (s : ByteArray) (p : Nat) : List Value := [.string (s.extract p (arrow s p)), .string (s.extract (arrow s p + 1) (stop s p))]
def flat (s : ByteArray) (acc : List Nat) : List Value := acc.flatMap (two s)

theorem flat_snoc (s : ByteArray) (acc : List Nat) (p : Nat) : flat s (acc ++ [p]) = flat s acc ++ two s p := by simp [flat]

theorem Try.info105 : (Try.prog.info? 105).map (fun i => (i.zero, i.size, i.bytes)) = some (some (.agg #[.string ByteArray.empty, .string ByteArray.empty]), 2, 32) := by kernel_rfl

theorem rises_marks (s : ByteArray) (p : Nat) (w : World) (hs : s.size ≤ 210) :
    Calls Try.prog 73 #[.string (s.extract p s.size), .int .u8 97, .int .u8 122] w fun e w' => e = .returned (.int .i64 ((scan 122 97 (tl s p) : Nat) : Int)) ∧ ∃ n, w' = w.drewN n := by
  have := rises_any (s.extract p s.size) 97 122 w (by rw [ByteArray.size_extract]; omega) (by omega) (by omega)
  rw [tl_extract] at this
  exact this

theorem rises_next (s : ByteArray) (p : Nat) (w : World) (hs : s.size ≤ 210) :
    Calls Try.prog 73 #[.string (s.extract p s.size), .int .u8 48, .int .u8 53] w fun e w' => e = .returned (.int .i64 ((scan 53 48 (tl s p) : Nat) : Int)) ∧ ∃ n, w' = w.drewN n := by
  have := rises_any (s.extract p s.size) 48 53 w (by rw [ByteArray.size_extract]; omega) (by omega) (by omega)
  rw [tl_extract] at this
  exact this

theorem below_drewN' {B : Nat} {a w : World} (h : Below B a w) (n : Nat) : Below B a (w.drewN n) := below_drewN h n

theorem ownsRow_drewN {w : World} {base e size n : Nat} {v : Value} {xs : List Value} (h : w.ownsRow base e size v n xs) (k : Nat) : (w.drewN k).ownsRow base e size v n xs := h

set_option maxRecDepth 100000 in
set_option maxHeartbeats 1000000 in
theorem states_any (s : ByteArray) (w : World) (hs : s.size ≤ 210) :
    Calls Try.prog 52 #[.string s] w fun e w' => Below w.heap.size w w' ∧ (((run s 6 0).1 = true ∧ ∃ v, e = .returned (.tuple #[v, .int .i64 (-1)]) ∧ w'.ownsRow w.heap.size 105 2 v (run s 6 0).2.2.length (flat s (run s 6 0).2.2)) ∨
      ((run s 6 0).1 = false ∧ e = .returned (.tuple #[.slice none 0 0, .int .i64 ((run s 6 0).2.1 : Nat)]))) := by
  obtain ⟨i0, hi, hz0, hz1, hz2⟩ := info_parts Try.info105
  go_enter Try.func52, Try.ntmps52
  go_wp2
  go_loopw [4, 5] (fun l q wr => ∃ (acc : List Nat) (p : Nat) (a : Option Addr) (cap : Nat), l = .slice a acc.length cap ∧ p ≤ s.size ∧ q = .int .i64 p ∧ wr.ownsRow w.heap.size 105 2 (.slice a acc.length cap) acc.length (flat s acc) ∧ Below w.heap.size w wr ∧ acc.length ≤ 6 ∧ Hid (Inv s acc p)) (fun _ q _ => s.size + 1 - (intOf q).toNat)
  case atStart => exact ⟨[], 0, none, 0, rfl, by omega, rfl, World.ownsRow_nil _ _ _ _, Below.refl _ _, by simp, inv_start s⟩
  case round =>
    obtain ⟨acc, p, a, cap, rfl, hp, rfl, hown, hbel, hlen, HI⟩ := hrel
    by_cases hlt : p < s.size
    · by_cases h6 : acc.length = 6
      · have h6' : ((acc.length : Int) == 6) = true := by rw [beq_iff_eq]; omega
        go_wp2_with fail
        go_ret2
        have h := inv_full HI.out (.inl hlt) h6
        exact ⟨hbel, .inr ⟨h.1, by rw [h.2]; rfl⟩⟩
      · have h6' : ((acc.length : Int) == 6) = false := by rw [beq_eq_false_iff_ne]; omega
        go_wp2_with fail
        refine (rises_marks s p _ hs).mono ?_
        rintro e w1 ⟨rfl, n1, rfl⟩
        have hb1 : scan 122 97 (tl s p) ≤ 210 := by have := scan_size s 122 97 p hp; omega
        have hsum : (p : Int) + ((scan 122 97 (tl s p) : Nat) : Int) = ((arrow s p : Nat) : Int) := rfl
        have ha := arrow_le (s := s) hp
        have hpa := le_arrow s p
        by_cases hal : arrow s p < s.size
        · by_cases hac : s[arrow s p].toNat = 62
          · have hac' : ((s[arrow s p].toNat : Int) != 62) = false := by simp [hac]
            have HA : Hid (isAt s (arrow s p) 62 = true) := isAt_yes hal hac
            go_wp2_with fail
            refine (rises_next s _ _ hs).mono ?_
            rintro e w1 ⟨rfl, n2, rfl⟩
            have hst := stop_le hal
            have hb2 : scan 53 48 (tl s (arrow s p + 1)) ≤ 210 := by have := scan_size s 53 48 (arrow s p + 1) (by omega); omega
            have hsum2 : (arrow s p : Int) + 1 + ((scan 53 48 (tl s (arrow s p + 1)) : Nat) : Int) = ((stop s p : Nat) : Int) := rfl
            have hls := lt_stop s p
            by_cases hsl : stop s p < s.size
            · by_cases hsc : s[stop s p].toNat = 59
              · have hsc' : ((s[stop s p].toNat : Int) != 59) = false := by simp [hsc]
                have HB : Hid (isAt s (stop s p) 59 = true) := isAt_yes hsl hsc
                have hown1 := ownsRow_drewN hown (n1 + n2)
                have hbel1 := below_drewN hbel (n1 + n2)
                have hsz := hbel.size
                go_wp2_with (at_builtin; refine wpList_append_lies _ rfl _ _ 101 rfl w.heap.size 105 i0 (.agg #[.string ByteArray.empty, .string ByteArray.empty]) 2 32 Try.underlying101 hi hz0 hz1 hz2 rfl (by decide) _ _ _ rfl (hown1.alloc _) ⟨wr.heap.size, 0, none⟩ 1 1 (two s p) rfl rfl (cell_two_new _ _ _ _) (fun x hx => by simp [two] at hx; rcases hx with rfl | rfl <;> rfl) (by decide) (by unfold maxLen; omega) (by omega) (by simp; omega) _ rfl ?_; intro g cap3 w3 hown3 hgrow3 hat3 hlt3)
                have hbel3 : Below w.heap.size w w3 := Below.grown (hbel1.alloc (by simpa using hsz) _) hgrow3 (by simp; omega) (fun j hj => (hown1.lt _ hj).1)
                clear hgrow3 hat3 hown1 hbel1
                go_wp2
                go_roundw
                case rel =>
                  refine ⟨acc ++ [p], stop s p + 1, some ⟨g, 0, none⟩, cap3, by simp, by omega, by go_num, by rw [flat_snoc]; simpa using hown3, hbel3, by simp; omega, inv_next HI.out (.inl hlt) (by omega) HA.out HB.out⟩
                case measure => simp [intOf]; omega
              · have hsc' : ((s[stop s p].toNat : Int) != 59) = true := by rw [bne_iff_ne]; omega
                go_wp2_with fail
                go_ret2
                have h := inv_stop HI.out (.inl hlt) (by omega) HA.out (isAt_no hsl hsc)
                exact ⟨below_drewN hbel _, .inr ⟨h.1, by rw [h.2]; rfl⟩⟩
            · go_wp2_with fail
              go_ret2
              have h := inv_stop HI.out (.inl hlt) (by omega) HA.out (isAt_end hsl)
              have he : stop s p = s.size := by omega
              exact ⟨below_drewN hbel _, .inr ⟨h.1, by rw [h.2, he]; rfl⟩⟩
          · have hac' : ((s[arrow s p].toNat : Int) != 62) = true := by rw [bne_iff_ne]; omega
            go_wp2_with fail
            go_ret2
            have h := inv_arrow HI.out (.inl hlt) (by omega) (isAt_no hal hac)
            exact ⟨below_drewN hbel n1, .inr ⟨h.1, by rw [h.2]; rfl⟩⟩
        · go_wp2_with fail
          go_ret2
          have h := inv_arrow HI.out (.inl hlt) (by omega) (isAt_end hal)
          have he : arrow s p = s.size := by omega
          exact ⟨below_drewN hbel n1, .inr ⟨h.1, by rw [h.2, he]; rfl⟩⟩
    · by_cases h0 : acc.length = 0
      · have h0' : ((acc.length : Int) == 0) = true := by rw [beq_iff_eq]; omega
        have h6' : ((acc.length : Int) == 6) = false := by rw [beq_eq_false_iff_ne]; omega
        go_wp2_with fail
        refine (rises_marks s p _ hs).mono ?_
        rintro e w1 ⟨rfl, n1, rfl⟩
        have hb1 : scan 122 97 (tl s p) ≤ 210 := by have := scan_size s 122 97 p hp; omega
        have hsum : (p : Int) + ((scan 122 97 (tl s p) : Nat) : Int) = ((arrow s p : Nat) : Int) := rfl
        have ha := arrow_le (s := s) hp
        have hpa := le_arrow s p
        have hal : ¬ arrow s p < s.size := by omega
        go_wp2_with fail
        go_ret2
        have h := inv_arrow HI.out (.inr (List.length_eq_zero_iff.1 h0)) (by omega) (isAt_end hal)
        have he : arrow s p = s.size := by omega
        exact ⟨below_drewN hbel n1, .inr ⟨h.1, by rw [h.2, he]; rfl⟩⟩
      · have h0' : ((acc.length : Int) == 0) = false := by rw [beq_eq_false_iff_ne]; omega
        go_wp2_with fail
        go_ret2
        have h := inv_end HI.out hlt (fun h => h0 (by rw [h]; rfl))
        exact ⟨hbel, .inl ⟨by rw [h], _, rfl, by rw [h]; exact hown⟩⟩

end Go.Proofs.Ytkjnhhbibaimfaa
