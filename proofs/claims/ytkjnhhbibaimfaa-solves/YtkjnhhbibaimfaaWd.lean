import Derived.Test.YtkjnhhbibaimfaaWa
import Derived.BigRegion
namespace Go.Proofs.Ytkjnhhbibaimfaa
open Go.RowKit Fw
set_option linter.unusedVariables false

/-- block b is a graph that is being read: c states so far, the edges M -/
structure Gr (w : World) (b c : Nat) (M : Nat → Nat → Bool) (K : Nat → ByteArray) : Prop where
  lt : b < w.heap.size
  e0 : w.cell? ⟨b, 0, none⟩ = some (.int .i64 0)
  e1 : w.cell? ⟨b, 1, none⟩ = some (.int .i64 0)
  cn : w.cell? ⟨b, 2, none⟩ = some (.int .i64 (c : Int))
  ms : ∀ i, i < 6 → w.cell? ⟨b, 3 + i, none⟩ = some (.string (K i))
  mx : ∀ i j, i < 6 → j < 6 → w.cell? ⟨b, 9 + i * 6 + j, none⟩ = some (.bool (M i j))
  fz : ∀ o, o < 45 → w.frozen? ⟨b, o, none⟩ = false

theorem Gr.drewN {w : World} {b c : Nat} {M : Nat → Nat → Bool} {K : Nat → ByteArray} (h : Gr w b c M K) (n : Nat) : Gr (w.drewN n) b c M K := ⟨h.lt, h.e0, h.e1, h.cn, h.ms, h.mx, h.fz⟩
theorem Gr.drew {w : World} {b c : Nat} {M : Nat → Nat → Bool} {K : Nat → ByteArray} (h : Gr w b c M K) : Gr w.drew b c M K := ⟨h.lt, h.e0, h.e1, h.cn, h.ms, h.mx, h.fz⟩

theorem addr_ne {b o p : Nat} (h : o ≠ p) : (⟨b, o, none⟩ : Addr) ≠ ⟨b, p, none⟩ := by
  intro e
  injection e
  contradiction

theorem cell_other {w : World} {a b : Addr} {v : Value} (h : a ≠ b) : (w.setCell a v).cell? b = w.cell? b := World.cell?_setCell_other _ _ _ _ h
theorem cell_same {w : World} {a : Addr} {u v : Value} (h : w.cell? a = some u) : (w.setCell a v).cell? a = some v := World.cell?_setCell_same _ _ _ h

theorem Gr.set {w : World} {b c : Nat} {M : Nat → Nat → Bool} {K : Nat → ByteArray} (h : Gr w b c M K) (i j : Nat) (hi : i < 6) (hj : j < 6) :
    Gr (w.setCell ⟨b, 9 + i * 6 + j, none⟩ (.bool true)) b c (fun x y => M x y || (x == i && y == j)) K := by
  refine ⟨by simpa using h.lt, ?_, ?_, ?_, ?_, ?_, ?_⟩
  · rw [cell_other (addr_ne (by omega))]; exact h.e0
  · rw [cell_other (addr_ne (by omega))]; exact h.e1
  · rw [cell_other (addr_ne (by omega))]; exact h.cn
  · intro x hx
    rw [cell_other (addr_ne (by omega))]; exact h.ms x hx
  · intro x y hx hy
    by_cases e : x = i ∧ y = j
    · obtain ⟨rfl, rfl⟩ := e
      rw [cell_same (h.mx x y hx hy)]
      simp
    · rw [cell_other (addr_ne (by omega)), h.mx x y hx hy]
      have : (x == i && y == j) = false := by
        rw [Bool.and_eq_false_iff, beq_eq_false_iff_ne, beq_eq_false_iff_ne]
        omega
      rw [this, Bool.or_false]
  · intro o ho
    rw [World.frozen?_setCell]
    exact h.fz o ho

theorem Gr.bump {w : World} {b c : Nat} {M : Nat → Nat → Bool} {K : Nat → ByteArray} (h : Gr w b c M K) :
    Gr (w.setCell ⟨b, 2, none⟩ (.int .i64 ((c : Int) + 1))) b (c + 1) M K := by
  refine ⟨by simpa using h.lt, ?_, ?_, ?_, ?_, ?_, ?_⟩
  · rw [cell_other (addr_ne (by omega))]; exact h.e0
  · rw [cell_other (addr_ne (by omega))]; exact h.e1
  · rw [cell_same h.cn]; simp
  · intro x hx
    rw [cell_other (addr_ne (by omega))]; exact h.ms x hx
  · intro x y hx hy
    rw [cell_other (addr_ne (by omega))]
    exact h.mx x y hx hy
  · intro o ho
    rw [World.frozen?_setCell]
    exact h.fz o ho

theorem Gr.mark {w : World} {b c : Nat} {M : Nat → Nat → Bool} {K : Nat → ByteArray} (h : Gr w b c M K) (i : Nat) (hi : i < 6) (t : ByteArray) :
    Gr (w.setCell ⟨b, 3 + i, none⟩ (.string t)) b c M (fun x => if x = i then t else K x) := by
  refine ⟨by simpa using h.lt, ?_, ?_, ?_, ?_, ?_, ?_⟩
  · rw [cell_other (addr_ne (by omega))]; exact h.e0
  · rw [cell_other (addr_ne (by omega))]; exact h.e1
  · rw [cell_other (addr_ne (by omega))]; exact h.cn
  · intro x hx
    by_cases e : x = i
    · subst e
      rw [cell_same (h.ms x hx), if_pos rfl]
    · rw [cell_other (addr_ne (by omega)), if_neg e]; exact h.ms x hx
  · intro x y hx hy
    rw [cell_other (addr_ne (by omega))]
    exact h.mx x y hx hy
  · intro o ho
    rw [World.frozen?_setCell]
    exact h.fz o ho

/-- the edges behind k digits from place q on, read as the next states of state c -/
def marked (s : ByteArray) (q c : Nat) (M : Nat → Nat → Bool) (k : Nat) : Nat → Nat → Bool :=
  fun x y => M x y || (x == c && (List.range k).any fun i => byteAt s (q + i) == y + 48)

theorem marked_succ (s : ByteArray) (q c : Nat) (M : Nat → Nat → Bool) (k d : Nat) (hd : byteAt s (q + k) = d + 48) :
    (fun x y => marked s q c M k x y || (x == c && y == d)) = marked s q c M (k + 1) := by
  funext x y
  unfold marked
  rw [List.range_succ, List.any_append]
  have : ([k].any fun i => byteAt s (q + i) == y + 48) = (y == d) := by
    simp only [List.any_cons, List.any_nil, Bool.or_false, hd]
    rw [Bool.eq_iff_iff, beq_iff_eq, beq_iff_eq]
    omega
  rw [this]
  cases M x y <;> cases (x == c) <;> simp

theorem marked_zero (s : ByteArray) (q c : Nat) (M : Nat → Nat → Bool) : marked s q c M 0 = M := by
  funext x y
  simp [marked]

set_option maxRecDepth 100000 in
set_option maxHeartbeats 1000000 in
theorem readNext_any (s : ByteArray) (b q c : Nat) (M : Nat → Nat → Bool) (K : Nat → ByteArray) (w : World) (hs : s.size ≤ 210) (hq : q ≤ s.size) (hc : c < 6) (hg : Gr w b c M K) :
    Calls Try.prog 109 #[.pointer (some ⟨b, 0, none⟩), .string s, .int .i64 q] w fun e w' => e = .returned (.int .i64 ((q + scan 53 48 (tl s q) : Nat) : Int)) ∧ Below b w w' ∧ Gr w' b c (marked s q c M (scan 53 48 (tl s q))) K := by
  have HG : Hid (Gr w b c M K) := hg
  clear hg
  go_enter Try.func109, Try.ntmps109
  go_wp2
  go_loopw [2, 7] (fun a l wr => ∃ k L : Nat, q + k ≤ s.size ∧ a = .int .i64 ((q + k : Nat) : Int) ∧ l = .int .i64 L ∧ L ≤ 6 ∧ Hid (k + scan 53 (L + 48) (tl s (q + k)) = scan 53 48 (tl s q)) ∧ Below b w wr ∧ Hid (Gr wr b c (marked s q c M k) K)) (fun a _ _ => s.size - (intOf a).toNat)
  case atStart => exact ⟨0, 0, by omega, rfl, rfl, by omega, by show _ = _; simp, Below.refl _ _, by show Gr _ _ _ _ _; rw [marked_zero]; exact HG.out⟩
  case round =>
    obtain ⟨k, L, hk, rfl, rfl, hL, HS, hbel, HR⟩ := hrel
    obtain ⟨m, hm⟩ : ∃ m, m = q + k := ⟨_, rfl⟩
    have HM : Hid (m = q + k) := hm
    rw [← hm] at hk HS ⊢
    clear hm
    by_cases hlt : m < s.size
    · have h256 : s[m].toNat < 256 := UInt8.toNat_lt _
      by_cases h1 : (s[m].toNat : Int) - 48 < (L : Int)
      · go_wp2_with fail
        go_ret
        have h := HS.out
        have := scan_no s 53 (L + 48) m hlt (by omega)
        have hm := HM.out
        exact ⟨ret_int (by omega), hbel, by rw [show scan 53 48 (tl s q) = k from by omega]; exact HR.out⟩
      · by_cases h2 : (6 : Int) ≤ (s[m].toNat : Int) - 48
        · go_wp2_with fail
          go_ret
          have h := HS.out
          have := scan_no s 53 (L + 48) m hlt (by omega)
          have hm := HM.out
          exact ⟨ret_int (by omega), hbel, by rw [show scan 53 48 (tl s q) = k from by omega]; exact HR.out⟩
        · obtain ⟨d, hd⟩ : ∃ d, s[m].toNat = d + 48 := ⟨s[m].toNat - 48, by omega⟩
          have h3 : d < 6 := by omega
          have HD : Hid (byteAt s (q + k) = d + 48) := by show _ = _; rw [← HM.out, byteAt_lt hlt]; exact hd
          have HY : Hid (scan 53 (L + 48) (tl s m) = scan 53 (d + 48 + 1) (tl s (m + 1)) + 1) := by
            show _ = _
            rw [scan_yes s 53 (L + 48) m hlt (by omega) (by omega), hd]
          have hcn := HR.out.cn
          have hmx := HR.out.mx c d hc h3
          have hfz := HR.out.fz (9 + c * 6 + d) (by omega)
          go_wp2_with fail
          go_region
          go_wp2
          go_roundw
          case rel =>
            have h := HS.out
            have h' := HY.out
            have hm := HM.out
            refine ⟨k + 1, d + 1, by omega, by go_num, by go_num, by omega, ?_, (hbel.setCell (by simp) _).drew, ?_⟩
            · show _ = _
              rw [show d + 1 + 48 = d + 48 + 1 from by omega, show q + (k + 1) = m + 1 from by omega]
              omega
            · show Gr _ _ _ _ _
              rw [← marked_succ s q c M k d HD.out]
              exact (HR.out.set c d hc h3).drew
          case measure => simp [intOf]; omega
    · go_wp2_with fail
      go_ret
      have h := HS.out
      have := scan_end s 53 (L + 48) m (by omega)
      have hm := HM.out
      exact ⟨ret_int (by omega), hbel, by rw [show scan 53 48 (tl s q) = k from by omega]; exact HR.out⟩

end Go.Proofs.Ytkjnhhbibaimfaa
