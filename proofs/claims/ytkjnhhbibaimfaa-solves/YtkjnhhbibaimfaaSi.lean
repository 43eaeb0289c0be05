import Derived.Test.YtkjnhhbibaimfaaSh
import Derived.Deep.RegionHeld3
namespace Go.Proofs.Ytkjnhhbibaimfaa
open Go.RowKit Fw
set_option linter.unusedVariables false

theorem fullB_is (G : Gph) : (upto G.n fun _ => true) = fullB G := by
  funext j
  unfold upto fullB
  by_cases h : j < G.n <;> simp [h]
theorem fullB_of (gb : Nat) (G : Gph) (mk : Nat → ByteArray) (w : World) (HG : Hid (Gm w gb G mk)) :
    Calls Try.prog 102 #[.pointer (some ⟨gb, 0, none⟩)] w fun e w' => e = .returned (.agg (six (fullB G))) ∧ Below w.heap.size w w' := by
  rw [← fullB_is]
  exact full_is gb G mk w HG
theorem anyN_congr {G : Gph} {p q : Nat → Bool} (h : ∀ j, j < G.n → p j = q j) : anyN G p = anyN G q := by
  rw [Bool.eq_iff_iff, anyN_iff, anyN_iff]
  exact ⟨fun ⟨j, hj, hp⟩ => ⟨j, hj, (h j hj) ▸ hp⟩, fun ⟨j, hj, hp⟩ => ⟨j, hj, (h j hj).symm ▸ hp⟩⟩
theorem upto_lt {n j : Nat} {f : Nat → Bool} (h : j < n) : upto n f j = f j := by unfold upto; rw [if_pos h]
theorem upto_congr {n : Nat} {f g : Nat → Bool} (h : ∀ j, j < n → f j = g j) : upto n f = upto n g := by
  funext j; unfold upto; split
  · next h1 => exact h j h1
  · rfl
theorem comes_upto (G : Gph) (a b c : Nat → Bool) (h : ∀ j, j < G.n → b j = c j) : upto G.n (comesB G a b) = upto G.n (comesB G a c) := by
  refine upto_congr fun i hi => ?_
  unfold comesB
  rw [h i hi, anyN_congr fun j hj => by rw [h j hj]]

theorem cells1 {w : World} {B : Nat} {f : Nat → Bool} (h : Arr w B 6 f) : w.cell? ⟨B, 0, none⟩ = some (.bool (f 0)) ∧ w.cell? ⟨B, 1, none⟩ = some (.bool (f 1)) ∧ w.cell? ⟨B, 2, none⟩ = some (.bool (f 2)) ∧ w.cell? ⟨B, 3, none⟩ = some (.bool (f 3)) ∧ w.cell? ⟨B, 4, none⟩ = some (.bool (f 4)) ∧ w.cell? ⟨B, 5, none⟩ = some (.bool (f 5)) :=
  ⟨h.c 0 (by omega), h.c 1 (by omega), h.c 2 (by omega), h.c 3 (by omega), h.c 4 (by omega), h.c 5 (by omega)⟩
theorem zero6 {w : World} {B : Nat} {f : Nat → Bool} (h : Arr w B 6 f) : w.frozen? ⟨B, 0, none⟩ = false ∧ w.frozen? ⟨B, 1, none⟩ = false ∧ w.frozen? ⟨B, 2, none⟩ = false ∧ w.frozen? ⟨B, 3, none⟩ = false ∧ w.frozen? ⟨B, 4, none⟩ = false ∧ w.frozen? ⟨B, 5, none⟩ = false :=
  ⟨h.z 0 (by omega), h.z 1 (by omega), h.z 2 (by omega), h.z 3 (by omega), h.z 4 (by omega), h.z 5 (by omega)⟩
theorem Arr.otherK {w w' : World} {B R n : Nat} {f : Nat → Bool} (h : Arr w B n f) (hs : w'.heap.size = w.heap.size) (hk : ∀ k, k ≠ R → w'.heap[k]? = w.heap[k]?) (hr : R ≠ B) : Arr w' B n f := by
  have hb := hk B (Ne.symm hr)
  refine ⟨by rw [hs]; exact h.lt, fun j hj => ?_, fun j hj => ?_⟩
  · rw [← h.c j hj]
    unfold World.cell?
    simp only [hb]
  · rw [← h.z j hj]
    unfold World.frozen?
    simp only [hb]
theorem stores6 {w : World} {R : Nat} {f : Nat → Bool} (h : Arr w R 6 f) (g : Nat → Bool) : ∃ w', (storeCells ⟨R, 0, none⟩ (six g).toList).run Try.prog w = .ok () w' ∧ Below R w w' ∧ w'.heap.size = w.heap.size ∧ (∀ k, k ≠ R → w'.heap[k]? = w.heap[k]?) ∧ Arr w' R 6 g := by
  have hc := run_storeCells_cells (P := Try.prog) R 0 (six g).toList 0 w (fun j hj => by simpa using (h.there j (by simpa [six] using hj)).1) (fun j hj => by simpa using (h.there j (by simpa [six] using hj)).2) (fun v hv => (Array.all_eq_true_iff_forall_mem.1 (bools_one 6 g)) v (by
    have : v ∈ (six g).toList := hv
    simpa [six, bools, List.range, List.range.loop] using this))
  refine ⟨_, hc, below_setCellsT R _ _ _, size_setCellsT R _ _ _, block_setCellsT R _ _ _, ?_⟩
  have hr : (w.setCells R 0 (six g).toList).rangeAt R 0 (bools 6 g) := World.rangeAt_setCells_same w R 0 (six g).toList h.there
  refine arr_of_range ?_ hr ?_
  · rw [size_setCellsT]; exact h.lt
  · intro o ho
    rw [World.frozen?_setCells]
    exact h.z o ho

set_option maxRecDepth 100000 in
set_option maxHeartbeats 4000000 in
theorem someU_is (gb : Nat) (G : Gph) (ok : G.ok) (mk : Nat → ByteArray) (S T : Nat → Bool) (f : ByteArray) (w : World) (hf : f.size ≤ 1000) (HG : Hid (Gm w gb G mk)) :
    Calls Try.prog 83 #[.pointer (some ⟨gb, 0, none⟩), .int .u8 85, .agg (six S), .agg (six T), .string f] w fun e w' => e = .returned (.agg (six (upto G.n (someB G (fsOf f) 85 S T)))) ∧ Below w.heap.size w w' := by
  have hgl := HG.out.lt
  have HOK : Hid G.ok := ok
  clear ok
  have HA0 : Hid (Arr (((w.alloc (.cells (six S) 111)).alloc (.cells (six T) 111)).alloc (.cells (six fun _ => false) 111)) w.heap.size 6 S) := ((arr_new w S 111).alloc _).alloc _
  have HT0 : Hid (Arr (((w.alloc (.cells (six S) 111)).alloc (.cells (six T) 111)).alloc (.cells (six fun _ => false) 111)) (w.heap.size + 1) 6 T) := (arr_at _ _ 111 _ (by simp)).alloc _
  have HR0 : Hid (Arr (((w.alloc (.cells (six S) 111)).alloc (.cells (six T) 111)).alloc (.cells (six fun _ => false) 111)) (w.heap.size + 1 + 1) 6 (fun _ => false)) := arr_at _ _ 111 _ (by simp)
  have hb0 := below3 w (.cells (six S) 111) (.cells (six T) 111) (.cells (six fun _ => false) 111)
  have HG0 : Hid (Gm _ gb G mk) := HG.out.below hb0 hgl
  have HFU := fun w' (h : Hid (Gm w' gb G mk)) => fullB_of gb G mk w' h
  have HST := fun w' (h : Hid (Gm w' gb G mk)) => stays_is gb G HOK.out mk (fullB G) f w' hf h
  have HCO := fun U w' (h : Hid (Gm w' gb G mk)) => comes_is gb G HOK.out mk S U w' h
  have HU : upto G.n (someB G (fsOf f) 85 S T) = upto G.n (comesB G S fun j => T j && upto G.n (liveB G (fsOf f)) j) := by
    rw [comes_upto G S (fun j => T j && upto G.n (liveB G (fsOf f)) j) (fun j => T j && liveB G (fsOf f) j) (fun j hj => by rw [upto_lt hj])]
    rfl
  rw [HU]
  clear HU
  have HL : staysB G (fsOf f) (fullB G) = liveB G (fsOf f) := rfl
  rw [HL] at HST
  clear HL
  obtain ⟨L, hL⟩ : ∃ L, L = upto G.n (liveB G (fsOf f)) := ⟨_, rfl⟩
  rw [← hL] at HST
  rw [← hL]
  clear hL
  go_enter Try.func83, Try.ntmps83
  go_wp2_with (first
    | (go_at_call 102; refine (HFU _ HG0).mono ?_; rintro e w1 ⟨rfl, hb1⟩)
    | (go_at_call 101; refine (HST _ (HG0.out.below hb1 HG0.out.lt)).mono ?_; rintro e w2 ⟨rfl, hb2⟩)
    | (refine store6 (by rfl) _ _ (by rfl) w2.heap.size (fun _ => false) L (by rfl) (by rfl) (arr_at w2 (fun _ => false) 111 _ rfl) ?_; intro w3 hb3 hz3 hk3 HL3))
  have hb02 := Below.to hb1 hb2
  have hb23 : Below w2.heap.size w2 w3 := ((Below.refl _ _).alloc (Nat.le_refl _) _).trans hb3
  have hb03 := Below.to hb02 hb23
  have HA3 : Hid (Arr w3 w.heap.size 6 S) := HA0.out.below hb03 HA0.out.lt
  have HT3 : Hid (Arr w3 (w.heap.size + 1) 6 T) := HT0.out.below hb03 HT0.out.lt
  have HR3 : Hid (Arr w3 (w.heap.size + 1 + 1) 6 (fun _ => false)) := HR0.out.below hb03 HR0.out.lt
  have hbel : Below w.heap.size w w3 := Below.to hb0 hb03
  have HLL : Hid (Arr w3 w2.heap.size 6 L) := HL3
  have q1 : w.heap.size + 1 + 1 < w2.heap.size := (HR0.out.below hb02 HR0.out.lt).lt
  clear HL3 HA0 HT0 HR0 HG0 hb0 hb1 hb2 hb3 hk3 hb02 hb23 hb03 hz3
  go_region_held3 (fun w' => (w'.cell? ⟨w.heap.size, 0, none⟩ = some (.bool (S 0)) ∧ w'.cell? ⟨w.heap.size, 1, none⟩ = some (.bool (S 1)) ∧ w'.cell? ⟨w.heap.size, 2, none⟩ = some (.bool (S 2)) ∧ w'.cell? ⟨w.heap.size, 3, none⟩ = some (.bool (S 3)) ∧ w'.cell? ⟨w.heap.size, 4, none⟩ = some (.bool (S 4)) ∧ w'.cell? ⟨w.heap.size, 5, none⟩ = some (.bool (S 5))) ∧ (w'.cell? ⟨(w.heap.size + 1), 0, none⟩ = some (.bool (T 0)) ∧ w'.cell? ⟨(w.heap.size + 1), 1, none⟩ = some (.bool (T 1)) ∧ w'.cell? ⟨(w.heap.size + 1), 2, none⟩ = some (.bool (T 2)) ∧ w'.cell? ⟨(w.heap.size + 1), 3, none⟩ = some (.bool (T 3)) ∧ w'.cell? ⟨(w.heap.size + 1), 4, none⟩ = some (.bool (T 4)) ∧ w'.cell? ⟨(w.heap.size + 1), 5, none⟩ = some (.bool (T 5))) ∧ (w'.cell? ⟨w2.heap.size, 0, none⟩ = some (.bool (L 0)) ∧ w'.cell? ⟨w2.heap.size, 1, none⟩ = some (.bool (L 1)) ∧ w'.cell? ⟨w2.heap.size, 2, none⟩ = some (.bool (L 2)) ∧ w'.cell? ⟨w2.heap.size, 3, none⟩ = some (.bool (L 3)) ∧ w'.cell? ⟨w2.heap.size, 4, none⟩ = some (.bool (L 4)) ∧ w'.cell? ⟨w2.heap.size, 5, none⟩ = some (.bool (L 5)))) (first
      | exact ⟨cells1 HA3.out.drew, cells1 HT3.out.drew, cells1 HLL.out.drew⟩
      | exact ⟨cells1 HA4.out, cells1 HT4.out, cells1 HL4.out⟩
      | exact ⟨cells1 HA5.out, cells1 HT5.out, cells1 HL5.out⟩
      | exact ⟨cells1 (HA5.out.otherK hz6 hk6 (by omega)), cells1 (HT5.out.otherK hz6 hk6 (by omega)), cells1 (HL5.out.otherK hz6 hk6 (by omega))⟩) (first
    | (go_at_call 81; refine (both_is T L _).mono ?_; rintro e w4 ⟨rfl, hb4⟩
       have HA4 : Hid (Arr w4 w.heap.size 6 S) := HA3.out.drew.below hb4 HA3.out.drew.lt
       have HT4 : Hid (Arr w4 (w.heap.size + 1) 6 T) := HT3.out.drew.below hb4 HT3.out.drew.lt
       have HL4 : Hid (Arr w4 w2.heap.size 6 L) := HLL.out.drew.below hb4 HLL.out.drew.lt
       have HR4 : Hid (Arr w4 (w.heap.size + 1 + 1) 6 (fun _ => false)) := HR3.out.drew.below hb4 HR3.out.drew.lt
       have hbel4 : Below w.heap.size w w4 := Below.to hbel.drew hb4)
    | (go_at_call 103; refine (HCO _ _ (HG.out.below hbel4 hgl)).mono ?_; rintro e w5 ⟨rfl, hb5⟩
       have HA5 : Hid (Arr w5 w.heap.size 6 S) := HA4.out.below hb5 HA4.out.lt
       have HT5 : Hid (Arr w5 (w.heap.size + 1) 6 T) := HT4.out.below hb5 HT4.out.lt
       have HL5 : Hid (Arr w5 w2.heap.size 6 L) := HL4.out.below hb5 HL4.out.lt
       have HR5 : Hid (Arr w5 (w.heap.size + 1 + 1) 6 (fun _ => false)) := HR4.out.below hb5 HR4.out.lt
       have hbel5 : Below w.heap.size w w5 := Below.to hbel4 hb5
       obtain ⟨w6, hrun6, hb6, hz6, hk6, HR6'⟩ := stores6 HR5.out (upto G.n (comesB G S fun j => T j && L j))
       have HR6 : Hid (Arr w6 _ 6 _) := HR6'
       clear HR6'))
  all_goals
    go_wp2_with fail
    exact bodyPost_ret (result6 Try.results83 _ _ (w.heap.size + 1 + 1) _ rfl HR6.out) rfl ⟨rfl, hbel5.trans (hb6.mono (by omega))⟩

end Go.Proofs.Ytkjnhhbibaimfaa
