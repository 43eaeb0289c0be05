import Derived.Test.YtkjnhhbibaimfaaYc
namespace Go.Proofs.Ytkjnhhbibaimfaa
open Go.RowKit Fw
open Go.Deep (BT)
set_option linter.unusedVariables false

theorem isAt_tl {s : ByteArray} {p c : Nat} (h : isAt s p c = true) : ∃ d : UInt8, tl s p = d :: tl s (p + 1) ∧ d.toNat = c := by
  have hl := isAt_lt h
  simp only [isAt, decide_eq_true_eq] at h
  exact ⟨s[p], tl_cons s p hl, h.2⟩

theorem isAt_tl_no {s : ByteArray} {p c : Nat} (h : isAt s p c = false) : tl s p = [] ∨ ∃ d r, tl s p = d :: r ∧ ¬ d.toNat = c := by
  by_cases hl : p < s.size
  · right
    refine ⟨s[p], tl s (p + 1), tl_cons s p hl, ?_⟩
    simp [isAt, hl] at h
    exact h
  · exact .inl (tl_nil s p (by omega))

section
variable {f : List UInt8 → Bool × List UInt8 × Fm} {wy a b z : Nat} {l : List UInt8} {s : ByteArray} {p p2 c : Nat}

theorem two_noleft (h : (f l).1 = false) : two f wy a b z l = (false, (f l).2.1, .nil) := by simp [two, h]

theorem two_nosign (h : (f l).1 = true) (hq : (f l).2.1 = tl s p) (ha : isAt s p a = false) (hb : isAt s p b = false) : two f wy a b z l = (false, tl s p, .nil) := by
  rw [two, if_pos h, hq]
  rcases isAt_tl_no ha with e | ⟨d, r, e, hd⟩
  · rw [e]; rfl
  · rcases isAt_tl_no hb with e2 | ⟨d2, r2, e2, hd2⟩
    · rw [e2]; rfl
    · rw [e] at e2
      injection e2 with e3 e4
      subst e3
      rw [e]
      dsimp only [mid]
      rw [if_neg (by rintro (h1 | h1) <;> contradiction)]

theorem two_noright (h : (f l).1 = true) (hq : (f l).2.1 = tl s p) (hc : isAt s p c = true) (hs : c = a ∨ c = b) (h2 : (f (tl s (p + 1))).1 = false) : two f wy a b z l = (false, (f (tl s (p + 1))).2.1, .nil) := by
  obtain ⟨d, e, hd⟩ := isAt_tl hc
  rw [two, if_pos h, hq, e]
  dsimp only [mid]
  rw [if_pos (by rw [hd]; exact hs), if_neg (by rw [h2]; simp)]

theorem two_noclose (h : (f l).1 = true) (hq : (f l).2.1 = tl s p) (hc : isAt s p c = true) (hs : c = a ∨ c = b) (h2 : (f (tl s (p + 1))).1 = true) (hq2 : (f (tl s (p + 1))).2.1 = tl s p2) (hz : isAt s p2 z = false) : two f wy a b z l = (false, tl s p2, .nil) := by
  obtain ⟨d, e, hd⟩ := isAt_tl hc
  rw [two, if_pos h, hq, e]
  dsimp only [mid]
  rw [if_pos (by rw [hd]; exact hs), if_pos h2, hq2]
  rcases isAt_tl_no hz with e2 | ⟨d2, r2, e2, hd2⟩
  · rw [e2]
  · rw [e2]
    dsimp only
    rw [if_neg hd2]

theorem two_yes (h : (f l).1 = true) (hq : (f l).2.1 = tl s p) (hc : isAt s p c = true) (hs : c = a ∨ c = b) (h2 : (f (tl s (p + 1))).1 = true) (hq2 : (f (tl s (p + 1))).2.1 = tl s p2) (hz : isAt s p2 z = true) : two f wy a b z l = (true, tl s (p2 + 1), .node c wy () (f l).2.2 (f (tl s (p + 1))).2.2) := by
  obtain ⟨d, e, hd⟩ := isAt_tl hc
  obtain ⟨d2, e2, hd2⟩ := isAt_tl hz
  rw [two, if_pos h, hq, e]
  dsimp only [mid]
  rw [if_pos (by rw [hd]; exact hs), if_pos h2, hq2, e2]
  dsimp only
  rw [if_pos hd2, hd]

end

/-- a box of five cells -/
def Bx (w : World) (H : Nat) (c0 c1 c2 c3 c4 : Value) : Prop := w.heap[H]? = some (.cells #[c0, c1, c2, c3, c4] 97)

section
variable {w w' : World} {H b : Nat} {c0 c1 c2 c3 c4 x : Value} {v v' : Value}
theorem Bx.set0 (h : Bx w H c0 c1 c2 c3 c4) (x : Value) : Bx (w.setCell ⟨H, 0, none⟩ x) H x c1 c2 c3 c4 := heap_setCell_same w H 0 _ 97 x h
theorem Bx.set2 (h : Bx w H c0 c1 c2 c3 c4) (x : Value) : Bx (w.setCell ⟨H, 2, none⟩ x) H c0 c1 x c3 c4 := heap_setCell_same w H 2 _ 97 x h
theorem Bx.set3 (h : Bx w H c0 c1 c2 c3 c4) (x : Value) : Bx (w.setCell ⟨H, 3, none⟩ x) H c0 c1 c2 x c4 := heap_setCell_same w H 3 _ 97 x h
theorem Bx.kept (h : Bx w H c0 c1 c2 c3 c4) (hk : Kp b v v' w w') (h1 : H < w.heap.size) (h2 : H ≠ b) (h3 : v.ownBlock ≠ some H) : Bx w' H c0 c1 c2 c3 c4 := (hk.keep H h1 h2 h3).trans h
theorem Bx.cells (h : Bx w H c0 c1 c2 c3 c4) : w.cell? ⟨H, 0, none⟩ = some c0 ∧ w.cell? ⟨H, 1, none⟩ = some c1 ∧ w.cell? ⟨H, 2, none⟩ = some c2 ∧ w.cell? ⟨H, 3, none⟩ = some c3 ∧ w.cell? ⟨H, 4, none⟩ = some c4 ∧ ∀ o, w.frozen? ⟨H, o, none⟩ = false := by
  refine ⟨?_, ?_, ?_, ?_, ?_, fun o => frozen_of_row _ _ _ _ _ h⟩ <;> rw [cell_of_row _ _ _ _ _ _ h] <;> rfl
end

theorem Rd.drew {w : World} {b p : Nat} {s : ByteArray} {v : Value} {ns : List Nd} (h : Rd w b s p v ns) : Rd w.drew b s p v ns := ⟨h.lt, h.c0, h.c1, h.c2, h.fz, h.own⟩
theorem Kp.drew {b : Nat} {v v' : Value} {w w' : World} (h : Kp b v v' w w') : Kp b v v' w w'.drew := ⟨h.os, h.tape, h.output, h.size, h.keep, h.at'⟩

/-- the nodes' row is never the box -/
theorem own_ne {v v' : Value} {w w' : World} {b H : Nat} (hk : Kp b v v' w w') (h1 : H < w.heap.size) (h2 : v.ownBlock ≠ some H) : v'.ownBlock ≠ some H := by
  rcases hk.at' with e | ⟨g, e, hg⟩
  · rw [e]; exact h2
  · rw [e]; intro e2; injection e2 with e2; omega

end Go.Proofs.Ytkjnhhbibaimfaa
