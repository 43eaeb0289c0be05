import Derived.Test.YtkjnhhbibaimfaaYg
namespace Go.Proofs.Ytkjnhhbibaimfaa
open Go.RowKit Fw
open Go.Deep (BT)
set_option linter.unusedVariables false

/-- what reading a formula comes to -/
def ptAll (s : ByteArray) : Bool × List UInt8 × Fm := pt (s.size + 1) (tl s 0)

theorem kp_below {b : Nat} {v' : Value} {W w' : World} (hk : Kp b (.slice none 0 0) v' W w') (hb : b ≤ W.heap.size) : Below b W w' :=
  ⟨hk.os, hk.tape, hk.output, hk.size, fun k h => hk.keep k (by omega) (by omega) (by intro e; cases e)⟩

theorem rd_new (w : World) (o : Obj) (s : ByteArray) : Rd ((w.alloc o).alloc (.cells #[.string s, .int .i64 0, .slice none 0 0] 93)) (w.heap.size + 1) s 0 (.slice none 0 0) [] := by
  refine ⟨by simp, by simp, by simp, by simp, ?_, World.ownsRow_nil _ _ _ _⟩
  intro j hj
  have hb : ((w.alloc o).alloc (.cells #[.string s, .int .i64 0, .slice none 0 0] 93)).heap[w.heap.size + 1]? = some (.cells #[.string s, .int .i64 0, .slice none 0 0] 93) := heap_alloc2_new w _ _
  exact frozen_of_row _ _ _ _ _ hb

theorem set4 {w w1 : World} {a b c d : Value} {i j k l : Nat} (h : Below w.heap.size w w1) :
    Below w.heap.size w ((((w1.setCell ⟨w.heap.size, i, none⟩ a).setCell ⟨w.heap.size, j, none⟩ b).setCell ⟨w.heap.size, k, none⟩ c).setCell ⟨w.heap.size, l, none⟩ d) :=
  (((h.setCell (p := ⟨w.heap.size, i, none⟩) (Nat.le_refl _) a).setCell (p := ⟨w.heap.size, j, none⟩) (Nat.le_refl _) b).setCell (p := ⟨w.heap.size, k, none⟩) (Nat.le_refl _) c).setCell (p := ⟨w.heap.size, l, none⟩) (Nat.le_refl _) d

theorem own4 {w w1 : World} {a b c d v : Value} {i j k l n : Nat} {xs : List Value} (h : w1.ownsRow (w.heap.size + 1 + 1) 97 5 v n xs) :
    ((((w1.setCell ⟨w.heap.size, i, none⟩ a).setCell ⟨w.heap.size, j, none⟩ b).setCell ⟨w.heap.size, k, none⟩ c).setCell ⟨w.heap.size, l, none⟩ d).ownsRow (w.heap.size + 2) 97 5 v n xs :=
  ownsRow_setCell_below (ownsRow_setCell_below (ownsRow_setCell_below (ownsRow_setCell_below h (by simp; omega) a) (by simp; omega) b) (by simp; omega) c) (by simp; omega) d

set_option maxRecDepth 100000 in
set_option maxHeartbeats 3200000 in
theorem loadFormula_long (s : ByteArray) (w : World) (hs : ¬ s.size ≤ 30) :
    Calls Try.prog 32 #[.string s] w fun e w' => e = .returned (.agg #[.int .i64 1, .int .i64 0, .slice none 0 0, .int .i64 0]) ∧ Below w.heap.size w w' := by
  have h : (30 : Int) < (s.size : Int) := by omega
  go_enter Try.func32, Try.ntmps32
  go_wp2_with fail
  exact bodyPost_ret (v := .agg #[.int .i64 1, .int .i64 0, .slice none 0 0, .int .i64 0]) (by simp [results, Try.results32, go_sem]) rfl ⟨rfl, (Below.refl _ _).alloc (Nat.le_refl _) _⟩

set_option maxRecDepth 100000 in
set_option maxHeartbeats 3200000 in
theorem loadFormula_any (s : ByteArray) (w : World) (hs : s.size ≤ 30) :
    Calls Try.prog 32 #[.string s] w fun e w' => Below w.heap.size w w' ∧
      ((¬ ((ptAll s).1 = true ∧ (ptAll s).2.1 = []) ∧ e = .returned (.agg #[.int .i64 5, .int .i64 ((s.size - (ptAll s).2.1.length : Nat) : Int), .slice none 0 0, .int .i64 0])) ∨
       ((ptAll s).1 = true ∧ (ptAll s).2.1 = [] ∧ 3 < nst (ptAll s).2.2 ∧ e = .returned (.agg #[.int .i64 6, .int .i64 0, .slice none 0 0, .int .i64 0])) ∨
       ((ptAll s).1 = true ∧ (ptAll s).2.1 = [] ∧ ¬ 3 < nst (ptAll s).2.2 ∧ ∃ v ns, ∃ i : Nat, e = .returned (.agg #[.int .i64 0, .int .i64 0, v, .int .i64 (i : Int)]) ∧ w'.ownsRow (w.heap.size + 2) 97 5 v ns.length (flatN ns) ∧ Rep ns (ptAll s).2.2 i ∧ Clo ns ∧ ns.length ≤ 30)) := by
  go_enter Try.func32, Try.ntmps32
  go_wp2_with fail
  refine (readPart_any (s.size + 1) (w.heap.size + 1) 0 0 s (.slice none 0 0) [] _ hs (by omega) (by simp) (rd_new w _ s) (by omega)).mono ?_
  rintro e w1 ⟨v', ns', hrd, hkp, hlen, hh⟩
  rw [List.nil_append] at hrd hlen hh
  have hb1 : Below (w.heap.size + 1) _ w1 := kp_below hkp (by simp)
  have HB1 : Hid (Below w.heap.size w w1) := (((Below.refl _ _).alloc (Nat.le_refl _) _).alloc (by simp) _).trans (hb1.mono (by omega))
  have r0 : w1.cell? ⟨w.heap.size, 0, none⟩ = some (.int .i64 0) := by rw [hb1.cell (p := ⟨w.heap.size, 0, none⟩) (by simp)]; simp
  have r1 : w1.cell? ⟨w.heap.size, 1, none⟩ = some (.int .i64 0) := by rw [hb1.cell (p := ⟨w.heap.size, 1, none⟩) (by simp)]; simp
  have r2 : w1.cell? ⟨w.heap.size, 2, none⟩ = some (.slice none 0 0) := by rw [hb1.cell (p := ⟨w.heap.size, 2, none⟩) (by simp)]; simp
  have r3 : w1.cell? ⟨w.heap.size, 3, none⟩ = some (.int .i64 0) := by rw [hb1.cell (p := ⟨w.heap.size, 3, none⟩) (by simp)]; simp
  have rz : ∀ o, w1.frozen? ⟨w.heap.size, o, none⟩ = false := by
    intro o
    rw [hb1.frozen (p := ⟨w.heap.size, o, none⟩) (by simp)]
    exact frozen_of_row _ _ _ _ _ (heap_alloc2_old w _ _)
  have z0 := rz 0
  have z1 := rz 1
  have z2 := rz 2
  have z3 := rz 3
  have c1 := hrd.c1
  have c2 := hrd.c2
  have HRD : Hid (Rd w1 (w.heap.size + 1) s (s.size - (ptAll s).2.1.length) v' ns') := hrd
  have c1' : w1.cell? ⟨w.heap.size + 1, 1, none⟩ = some (.int .i64 ((s.size - (ptAll s).2.1.length : Nat) : Int)) := c1
  clear c1 hb1 hkp hrd rz
  rcases hh with ⟨hx, i, rfl, hrep, hclo⟩ | ⟨hx, rfl⟩
  · have HX : Hid ((ptAll s).1 = true) := hx
    have HREP : Hid (Rep ns' (ptAll s).2.2 i) := hrep
    have HCLO : Hid (Clo ns') := hclo clo_nil
    clear hclo
    have hg : good (ptAll s).2.2 := (pt_sound _ _ hx).2
    have hrl : (ptAll s).2.1.length ≤ s.size := (rest_tl (by omega) hx).2.2
    obtain ⟨p1, hp1⟩ : ∃ p1, p1 = s.size - (ptAll s).2.1.length := ⟨_, rfl⟩
    rw [← hp1] at c1'
    have HP1 : Hid (p1 = s.size - (ptAll s).2.1.length) := hp1
    by_cases hq : (ptAll s).2.1 = []
    · have hpe : p1 = s.size := by rw [hp1, hq]; simp
      have hne : (((p1 : Int)) != (s.size : Int)) = false := by simp [hpe]
      have HQ : Hid ((ptAll s).2.1 = []) := hq
      obtain ⟨g, cap, hv, hi, hbg, hgl, hcell⟩ := HRD.out.nest HREP.out hg
      obtain ⟨k, hk⟩ : ∃ k, k = nst (ptAll s).2.2 := ⟨_, rfl⟩
      rw [← hk] at hcell
      have HK : Hid (k = nst (ptAll s).2.2) := hk
      rw [hv] at c2
      have HV : Hid (v' = .slice (some ⟨g, 0, none⟩) ns'.length cap) := hv
      have hi2 : (i : Int) < (ns'.length : Int) := by omega
      have e1 : w.heap.size ≠ w.heap.size + 1 := by omega
      have e2 : w.heap.size + 1 ≠ w.heap.size := by omega
      clear hx hrep hg hrl hp1 hq hpe hk hv
      by_cases h3 : (3 : Int) < (k : Int)
      · go_wp2_with fail
        refine bodyPost_ret (v := .agg #[.int .i64 6, .int .i64 0, .slice none 0 0, .int .i64 0]) (by simp [results, Try.results32, go_sem, r0, r1, r2, r3]) rfl ?_
        exact ⟨set4 HB1.out, .inr (.inl ⟨HX.out, HQ.out, by rw [← HK.out]; omega, rfl⟩)⟩
      · go_wp2_with fail
        refine bodyPost_ret (v := .agg #[.int .i64 0, .int .i64 0, .slice (some ⟨g, 0, none⟩) ns'.length cap, .int .i64 (i : Int)]) (by simp [results, Try.results32, go_sem, r0, r1, r2, r3]) rfl ?_
        exact ⟨set4 HB1.out, .inr (.inr ⟨HX.out, HQ.out, by rw [← HK.out]; omega, _, ns', i, rfl, by rw [← HV.out]; exact own4 HRD.out.own, HREP.out, HCLO.out, by omega⟩)⟩
    · have hpe : p1 < s.size := by
        have : 0 < (ptAll s).2.1.length := List.length_pos_iff.2 hq
        omega
      have hne : (((p1 : Int)) != (s.size : Int)) = true := by rw [bne_iff_ne]; omega
      have HQ : Hid (¬ (ptAll s).2.1 = []) := hq
      clear hx hrep hg hrl hp1 hq
      go_wp2_with fail
      refine bodyPost_ret (v := .agg #[.int .i64 5, .int .i64 (p1 : Int), .slice none 0 0, .int .i64 0]) (by simp [results, Try.results32, go_sem, r0, r1, r2, r3]) rfl ?_
      exact ⟨set4 HB1.out, .inl ⟨fun h => HQ.out h.2, by rw [← HP1.out]⟩⟩
  · have HX : Hid ((ptAll s).1 = false) := hx
    obtain ⟨p1, hp1⟩ : ∃ p1, p1 = s.size - (ptAll s).2.1.length := ⟨_, rfl⟩
    rw [← hp1] at c1'
    have HP1 : Hid (p1 = s.size - (ptAll s).2.1.length) := hp1
    clear hx hp1
    go_wp2_with fail
    refine bodyPost_ret (v := .agg #[.int .i64 5, .int .i64 (p1 : Int), .slice none 0 0, .int .i64 0]) (by simp [results, Try.results32, go_sem, r0, r1, r2, r3]) rfl ?_
    exact ⟨set4 HB1.out, .inl ⟨fun h => by rw [HX.out] at h; exact absurd h.1 (by simp), by rw [← HP1.out]⟩⟩

end Go.Proofs.Ytkjnhhbibaimfaa
