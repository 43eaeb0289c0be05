import Derived.Test.YtcfbfdjmcabnkaaG10
import Derived.Test.YtcfbfdjmcabnkaaG6
namespace Go.Proofs.Ytcfbfdjmcabnkaa
open Go.RowKit Fw
set_option linter.unusedVariables false

theorem Wy.begin {w : World} {b o : Nat} {G : Gph} {K : Nat → ByteArray} {f : ByteArray} {B : Nat → Bool} (h : Wy w b o G K f B) : (w.cell? ⟨b, o + 46, none⟩ = some (.bool (B 0)) ∧ w.cell? ⟨b, o + 47, none⟩ = some (.bool (B 1)) ∧ w.cell? ⟨b, o + 48, none⟩ = some (.bool (B 2)) ∧ w.cell? ⟨b, o + 49, none⟩ = some (.bool (B 3)) ∧ w.cell? ⟨b, o + 50, none⟩ = some (.bool (B 4)) ∧ w.cell? ⟨b, o + 51, none⟩ = some (.bool (B 5))) :=
  ⟨h.cb 0 (by omega), h.cb 1 (by omega), h.cb 2 (by omega), h.cb 3 (by omega), h.cb 4 (by omega), h.cb 5 (by omega)⟩

set_option maxRecDepth 100000 in
set_option maxHeartbeats 4000000 in
theorem someX_P (b o : Nat) (G : Gph) (K : Nat → ByteArray) (f : ByteArray) (B S T : Nat → Bool) (w : World) (HG : Hid (Wy w b o G K f B)) :
    Calls Try.prog 71 #[.pointer (some ⟨b, o, none⟩), .int .u8 88, .agg (six S), .agg (six T)] w fun e w' => e = .returned (.agg (six (ahd G.e fun j => S j && B j))) ∧ Below w.heap.size w w' := by
  have hgl := HG.out.lt
  have HA0 : Hid (Arr (((w.alloc (.cells (six S) 56)).alloc (.cells (six T) 56)).alloc (.cells (six fun _ => false) 56)) w.heap.size 6 S) := ((arr_new w S 56).alloc _).alloc _
  have HT0 : Hid (Arr (((w.alloc (.cells (six S) 56)).alloc (.cells (six T) 56)).alloc (.cells (six fun _ => false) 56)) (w.heap.size + 1) 6 T) := (arr_at _ _ 56 _ (by simp)).alloc _
  have HR0 : Hid (Arr (((w.alloc (.cells (six S) 56)).alloc (.cells (six T) 56)).alloc (.cells (six fun _ => false) 56)) (w.heap.size + 1 + 1) 6 (fun _ => false)) := arr_at _ _ 56 _ (by simp)
  have hb0 := below3 w (.cells (six S) 56) (.cells (six T) 56) (.cells (six fun _ => false) 56)
  have HAH := fun C W (h : Hid (Wy W b o G K f B)) => aheadP_is b o G K f B C W h
  go_enter Try.func71, Try.ntmps71
  go_wp2_with fail
  generalize hW : ((w.alloc (Obj.cells (six S) 56)).alloc (Obj.cells (six T) 56)).alloc (Obj.cells #[Value.bool false, Value.bool false, Value.bool false, Value.bool false, Value.bool false, Value.bool false] 56) = w3
  have HA3 : Hid (Arr w3 w.heap.size 6 S) := by show Arr _ _ _ _; rw [← hW]; exact HA0.out
  have HT3 : Hid (Arr w3 (w.heap.size + 1) 6 T) := by show Arr _ _ _ _; rw [← hW]; exact HT0.out
  have HR3 : Hid (Arr w3 (w.heap.size + 1 + 1) 6 (fun _ => false)) := by show Arr _ _ _ _; rw [← hW]; exact HR0.out
  have hbel : Below w.heap.size w w3 := by rw [← hW]; exact hb0
  clear hW HA0 HT0 HR0 hb0
  have HG3 : Hid (Wy w3 b o G K f B) := HG.out.below hbel hgl
  go_region_held3 (fun w' => (w'.cell? ⟨w.heap.size, 0, none⟩ = some (.bool (S 0)) ∧ w'.cell? ⟨w.heap.size, 1, none⟩ = some (.bool (S 1)) ∧ w'.cell? ⟨w.heap.size, 2, none⟩ = some (.bool (S 2)) ∧ w'.cell? ⟨w.heap.size, 3, none⟩ = some (.bool (S 3)) ∧ w'.cell? ⟨w.heap.size, 4, none⟩ = some (.bool (S 4)) ∧ w'.cell? ⟨w.heap.size, 5, none⟩ = some (.bool (S 5))) ∧ (w'.cell? ⟨b, o + 46, none⟩ = some (.bool (B 0)) ∧ w'.cell? ⟨b, o + 47, none⟩ = some (.bool (B 1)) ∧ w'.cell? ⟨b, o + 48, none⟩ = some (.bool (B 2)) ∧ w'.cell? ⟨b, o + 49, none⟩ = some (.bool (B 3)) ∧ w'.cell? ⟨b, o + 50, none⟩ = some (.bool (B 4)) ∧ w'.cell? ⟨b, o + 51, none⟩ = some (.bool (B 5)))) (first
      | exact ⟨cells1 HA3.out.drew, HG3.out.drew.begin⟩
      | exact ⟨cells1 HA4.out, HG4.out.begin⟩
      | exact ⟨cells1 HA5.out, HG5.out.begin⟩
      | exact ⟨cells1 HA6.out, HG6.out.begin⟩) (first
    | (go_at_call 68; refine (bothP_is S B _).mono ?_; rintro e w4 ⟨rfl, hb4⟩
       have HA4 : Hid (Arr w4 w.heap.size 6 S) := HA3.out.drew.below hb4 HA3.out.drew.lt
       have HG4 : Hid (Wy w4 b o G K f B) := HG3.out.drew.below hb4 HG3.out.drew.lt
       have HR4 : Hid (Arr w4 (w.heap.size + 1 + 1) 6 (fun _ => false)) := HR3.out.drew.below hb4 HR3.out.drew.lt
       have hbel4 : Below w.heap.size w w4 := Below.to hbel.drew hb4)
    | (go_at_call 84; refine (HAH _ _ HG4).mono ?_; rintro e w5 ⟨rfl, hb5⟩
       have HA5 : Hid (Arr w5 w.heap.size 6 S) := HA4.out.below hb5 HA4.out.lt
       have HG5 : Hid (Wy w5 b o G K f B) := HG4.out.below hb5 HG4.out.lt
       have HR5 : Hid (Arr w5 (w.heap.size + 1 + 1) 6 (fun _ => false)) := HR4.out.below hb5 HR4.out.lt
       have hbel5 : Below w.heap.size w w5 := Below.to hbel4 hb5
       obtain ⟨w6, hrun6, hb6, hz6, hk6, HR6'⟩ := stores6 HR5.out (ahd G.e fun j => S j && B j)
       have HR6 : Hid (Arr w6 (w.heap.size + 1 + 1) 6 (ahd G.e fun j => S j && B j)) := HR6'
       have HA6 : Hid (Arr w6 w.heap.size 6 S) := HA5.out.otherK hz6 hk6 (by omega)
       have HG6 : Hid (Wy w6 b o G K f B) := HG5.out.below hb6 (by omega)
       clear HR6'))
  all_goals
    go_wp2_with fail
    exact bodyPost_ret (resultS Try.results71 _ _ (w.heap.size + 1 + 1) _ rfl HR6.out) rfl ⟨rfl, hbel5.trans (hb6.mono (by omega))⟩

set_option maxRecDepth 100000 in
set_option maxHeartbeats 4000000 in
theorem someU_P (b o : Nat) (G : Gph) (K : Nat → ByteArray) (f : ByteArray) (B S T : Nat → Bool) (w : World) (HG : Hid (Wy w b o G K f B)) :
    Calls Try.prog 71 #[.pointer (some ⟨b, o, none⟩), .int .u8 85, .agg (six S), .agg (six T)] w fun e w' => e = .returned (.agg (six (rea G.e S (fun j => T j && B j) 5))) ∧ Below w.heap.size w w' := by
  have hgl := HG.out.lt
  have HA0 : Hid (Arr (((w.alloc (.cells (six S) 56)).alloc (.cells (six T) 56)).alloc (.cells (six fun _ => false) 56)) w.heap.size 6 S) := ((arr_new w S 56).alloc _).alloc _
  have HT0 : Hid (Arr (((w.alloc (.cells (six S) 56)).alloc (.cells (six T) 56)).alloc (.cells (six fun _ => false) 56)) (w.heap.size + 1) 6 T) := (arr_at _ _ 56 _ (by simp)).alloc _
  have HR0 : Hid (Arr (((w.alloc (.cells (six S) 56)).alloc (.cells (six T) 56)).alloc (.cells (six fun _ => false) 56)) (w.heap.size + 1 + 1) 6 (fun _ => false)) := arr_at _ _ 56 _ (by simp)
  have hb0 := below3 w (.cells (six S) 56) (.cells (six T) 56) (.cells (six fun _ => false) 56)
  have HAH := fun C W (h : Hid (Wy W b o G K f B)) => reachingP_is b o G K f B S C W h
  go_enter Try.func71, Try.ntmps71
  go_wp2_with fail
  generalize hW : ((w.alloc (Obj.cells (six S) 56)).alloc (Obj.cells (six T) 56)).alloc (Obj.cells #[Value.bool false, Value.bool false, Value.bool false, Value.bool false, Value.bool false, Value.bool false] 56) = w3
  have HA3 : Hid (Arr w3 w.heap.size 6 S) := by show Arr _ _ _ _; rw [← hW]; exact HA0.out
  have HT3 : Hid (Arr w3 (w.heap.size + 1) 6 T) := by show Arr _ _ _ _; rw [← hW]; exact HT0.out
  have HR3 : Hid (Arr w3 (w.heap.size + 1 + 1) 6 (fun _ => false)) := by show Arr _ _ _ _; rw [← hW]; exact HR0.out
  have hbel : Below w.heap.size w w3 := by rw [← hW]; exact hb0
  clear hW HA0 HT0 HR0 hb0
  have HG3 : Hid (Wy w3 b o G K f B) := HG.out.below hbel hgl
  go_region_held3 (fun w' => (w'.cell? ⟨w.heap.size, 0, none⟩ = some (.bool (S 0)) ∧ w'.cell? ⟨w.heap.size, 1, none⟩ = some (.bool (S 1)) ∧ w'.cell? ⟨w.heap.size, 2, none⟩ = some (.bool (S 2)) ∧ w'.cell? ⟨w.heap.size, 3, none⟩ = some (.bool (S 3)) ∧ w'.cell? ⟨w.heap.size, 4, none⟩ = some (.bool (S 4)) ∧ w'.cell? ⟨w.heap.size, 5, none⟩ = some (.bool (S 5))) ∧ (w'.cell? ⟨(w.heap.size + 1), 0, none⟩ = some (.bool (T 0)) ∧ w'.cell? ⟨(w.heap.size + 1), 1, none⟩ = some (.bool (T 1)) ∧ w'.cell? ⟨(w.heap.size + 1), 2, none⟩ = some (.bool (T 2)) ∧ w'.cell? ⟨(w.heap.size + 1), 3, none⟩ = some (.bool (T 3)) ∧ w'.cell? ⟨(w.heap.size + 1), 4, none⟩ = some (.bool (T 4)) ∧ w'.cell? ⟨(w.heap.size + 1), 5, none⟩ = some (.bool (T 5))) ∧ (w'.cell? ⟨b, o + 46, none⟩ = some (.bool (B 0)) ∧ w'.cell? ⟨b, o + 47, none⟩ = some (.bool (B 1)) ∧ w'.cell? ⟨b, o + 48, none⟩ = some (.bool (B 2)) ∧ w'.cell? ⟨b, o + 49, none⟩ = some (.bool (B 3)) ∧ w'.cell? ⟨b, o + 50, none⟩ = some (.bool (B 4)) ∧ w'.cell? ⟨b, o + 51, none⟩ = some (.bool (B 5)))) (first
      | exact ⟨cells1 HA3.out.drew, cells1 HT3.out.drew, HG3.out.drew.begin⟩
      | exact ⟨cells1 HA4.out, cells1 HT4.out, HG4.out.begin⟩
      | exact ⟨cells1 HA5.out, cells1 HT5.out, HG5.out.begin⟩
      | exact ⟨cells1 HA6.out, cells1 HT6.out, HG6.out.begin⟩) (first
    | (go_at_call 68; refine (bothP_is T B _).mono ?_; rintro e w4 ⟨rfl, hb4⟩
       have HA4 : Hid (Arr w4 w.heap.size 6 S) := HA3.out.drew.below hb4 HA3.out.drew.lt
       have HT4 : Hid (Arr w4 (w.heap.size + 1) 6 T) := HT3.out.drew.below hb4 HT3.out.drew.lt
       have HG4 : Hid (Wy w4 b o G K f B) := HG3.out.drew.below hb4 HG3.out.drew.lt
       have HR4 : Hid (Arr w4 (w.heap.size + 1 + 1) 6 (fun _ => false)) := HR3.out.drew.below hb4 HR3.out.drew.lt
       have hbel4 : Below w.heap.size w w4 := Below.to hbel.drew hb4)
    | (go_at_call 66; refine (HAH _ _ HG4).mono ?_; rintro e w5 ⟨rfl, hb5⟩
       have HA5 : Hid (Arr w5 w.heap.size 6 S) := HA4.out.below hb5 HA4.out.lt
       have HT5 : Hid (Arr w5 (w.heap.size + 1) 6 T) := HT4.out.below hb5 HT4.out.lt
       have HG5 : Hid (Wy w5 b o G K f B) := HG4.out.below hb5 HG4.out.lt
       have HR5 : Hid (Arr w5 (w.heap.size + 1 + 1) 6 (fun _ => false)) := HR4.out.below hb5 HR4.out.lt
       have hbel5 : Below w.heap.size w w5 := Below.to hbel4 hb5
       obtain ⟨w6, hrun6, hb6, hz6, hk6, HR6'⟩ := stores6 HR5.out (rea G.e S (fun j => T j && B j) 5)
       have HR6 : Hid (Arr w6 (w.heap.size + 1 + 1) 6 (rea G.e S (fun j => T j && B j) 5)) := HR6'
       have HA6 : Hid (Arr w6 w.heap.size 6 S) := HA5.out.otherK hz6 hk6 (by omega)
       have HT6 : Hid (Arr w6 (w.heap.size + 1) 6 T) := HT5.out.otherK hz6 hk6 (by omega)
       have HG6 : Hid (Wy w6 b o G K f B) := HG5.out.below hb6 (by omega)
       clear HR6'))
  all_goals
    go_wp2_with fail
    exact bodyPost_ret (resultS Try.results71 _ _ (w.heap.size + 1 + 1) _ rfl HR6.out) rfl ⟨rfl, hbel5.trans (hb6.mono (by omega))⟩

end Go.Proofs.Ytcfbfdjmcabnkaa

namespace Go.Proofs.Ytcfbfdjmcabnkaa
open Go.RowKit Fw
set_option linter.unusedVariables false

set_option maxRecDepth 100000 in
set_option maxHeartbeats 4000000 in
theorem someR_P (b o : Nat) (G : Gph) (K : Nat → ByteArray) (f : ByteArray) (B S T : Nat → Bool) (hf : f.size ≤ 1000) (w : World) (HG : Hid (Wy w b o G K f B)) :
    Calls Try.prog 71 #[.pointer (some ⟨b, o, none⟩), .int .u8 82, .agg (six S), .agg (six T)] w fun e w' => e = .returned (.agg (six fun j => rea G.e T (fun j => (S j && T j) && B j) 5 j || stayP G (fsOf f) T j)) ∧ Below w.heap.size w w' := by
  have hgl := HG.out.lt
  have HA0 : Hid (Arr (((w.alloc (.cells (six S) 56)).alloc (.cells (six T) 56)).alloc (.cells (six fun _ => false) 56)) w.heap.size 6 S) := ((arr_new w S 56).alloc _).alloc _
  have HT0 : Hid (Arr (((w.alloc (.cells (six S) 56)).alloc (.cells (six T) 56)).alloc (.cells (six fun _ => false) 56)) (w.heap.size + 1) 6 T) := (arr_at _ _ 56 _ (by simp)).alloc _
  have HR0 : Hid (Arr (((w.alloc (.cells (six S) 56)).alloc (.cells (six T) 56)).alloc (.cells (six fun _ => false) 56)) (w.heap.size + 1 + 1) 6 (fun _ => false)) := arr_at _ _ 56 _ (by simp)
  have hb0 := below3 w (.cells (six S) 56) (.cells (six T) 56) (.cells (six fun _ => false) 56)
  have HRE := fun C W (h : Hid (Wy W b o G K f B)) => reachingP_is b o G K f B T C W h
  have HSY := fun W (h : Hid (Wy W b o G K f B)) => stayingP_is b o G K f B T hf W h
  obtain ⟨D, hD⟩ : ∃ D, D = rea G.e T (fun j => (S j && T j) && B j) 5 := ⟨_, rfl⟩
  have HRE2 := HRE (fun j => (S j && T j) && B j)
  rw [← hD] at HRE2
  rw [← hD]
  obtain ⟨E, hE⟩ : ∃ E, E = stayP G (fsOf f) T := ⟨_, rfl⟩
  rw [← hE] at HSY
  rw [← hE]
  clear hD hE HRE
  go_enter Try.func71, Try.ntmps71
  go_wp2_with (first
    | (refine loadS (by rfl) _ (by rfl) w.heap.size (by rfl) S HA0.out ?_)
    | (refine loadS (by rfl) _ (by rfl) (w.heap.size + 1) (by rfl) T HT0.out ?_)
    | (go_at_call 68; refine (bothP_is S T _).mono ?_; rintro e w1 ⟨rfl, hb1⟩)
    | (refine storeS (by rfl) _ _ (by rfl) w1.heap.size (fun _ => false) (fun j => S j && T j) (by rfl) (by rfl) (arr_zero w1 56) ?_; intro w3 hb3 hz3 hk3 HL3))
  have HA1 : Hid (Arr w1 w.heap.size 6 S) := HA0.out.below hb1 HA0.out.lt
  have hb13 : Below w1.heap.size w1 w3 := ((Below.refl _ _).alloc (Nat.le_refl _) _).trans hb3
  have HT3 : Hid (Arr w3 (w.heap.size + 1) 6 T) := (HT0.out.below hb1 HT0.out.lt).below hb13 (HT0.out.below hb1 HT0.out.lt).lt
  have HR3 : Hid (Arr w3 (w.heap.size + 1 + 1) 6 (fun _ => false)) := (HR0.out.below hb1 HR0.out.lt).below hb13 (HR0.out.below hb1 HR0.out.lt).lt
  have q1 : w.heap.size + 1 + 1 < w1.heap.size := (HR0.out.below hb1 HR0.out.lt).lt
  have hbel : Below w.heap.size w w3 := Below.to (Below.to hb0 hb1) hb13
  have HG3 : Hid (Wy w3 b o G K f B) := HG.out.below hbel hgl
  obtain ⟨R, hR⟩ : ∃ R, R = fun j => S j && T j := ⟨_, rfl⟩
  have HL3' : Hid (Arr w3 w1.heap.size 6 R) := by rw [hR]; exact HL3
  have HRE3 : ∀ W, Hid (Wy W b o G K f B) → Calls Try.prog 66 #[.pointer (some ⟨b, o, none⟩), .agg (six T), .agg (six fun j => R j && B j)] W fun e w' => e = .returned (.agg (six D)) ∧ Below W.heap.size W w' := by rw [hR]; exact HRE2
  clear hR HL3 HA1 HA0 HT0 HR0 hb0 hb1 hb3 hz3 hk3 hb13 HRE2
  have HK : Hid (∀ w', Below w3.heap.size w3 w' → (fun w' => (w'.cell? ⟨(w.heap.size + 1), 0, none⟩ = some (.bool (T 0)) ∧ w'.cell? ⟨(w.heap.size + 1), 1, none⟩ = some (.bool (T 1)) ∧ w'.cell? ⟨(w.heap.size + 1), 2, none⟩ = some (.bool (T 2)) ∧ w'.cell? ⟨(w.heap.size + 1), 3, none⟩ = some (.bool (T 3)) ∧ w'.cell? ⟨(w.heap.size + 1), 4, none⟩ = some (.bool (T 4)) ∧ w'.cell? ⟨(w.heap.size + 1), 5, none⟩ = some (.bool (T 5))) ∧ (w'.cell? ⟨w1.heap.size, 0, none⟩ = some (.bool (R 0)) ∧ w'.cell? ⟨w1.heap.size, 1, none⟩ = some (.bool (R 1)) ∧ w'.cell? ⟨w1.heap.size, 2, none⟩ = some (.bool (R 2)) ∧ w'.cell? ⟨w1.heap.size, 3, none⟩ = some (.bool (R 3)) ∧ w'.cell? ⟨w1.heap.size, 4, none⟩ = some (.bool (R 4)) ∧ w'.cell? ⟨w1.heap.size, 5, none⟩ = some (.bool (R 5))) ∧ (w'.cell? ⟨b, o + 46, none⟩ = some (.bool (B 0)) ∧ w'.cell? ⟨b, o + 47, none⟩ = some (.bool (B 1)) ∧ w'.cell? ⟨b, o + 48, none⟩ = some (.bool (B 2)) ∧ w'.cell? ⟨b, o + 49, none⟩ = some (.bool (B 3)) ∧ w'.cell? ⟨b, o + 50, none⟩ = some (.bool (B 4)) ∧ w'.cell? ⟨b, o + 51, none⟩ = some (.bool (B 5)))) w') := fun w' h => ⟨cells1 (HT3.out.below h HT3.out.lt), cells1 (HL3'.out.below h HL3'.out.lt), (HG3.out.below h HG3.out.lt).begin⟩
  go_region_held3 (fun w' => (w'.cell? ⟨(w.heap.size + 1), 0, none⟩ = some (.bool (T 0)) ∧ w'.cell? ⟨(w.heap.size + 1), 1, none⟩ = some (.bool (T 1)) ∧ w'.cell? ⟨(w.heap.size + 1), 2, none⟩ = some (.bool (T 2)) ∧ w'.cell? ⟨(w.heap.size + 1), 3, none⟩ = some (.bool (T 3)) ∧ w'.cell? ⟨(w.heap.size + 1), 4, none⟩ = some (.bool (T 4)) ∧ w'.cell? ⟨(w.heap.size + 1), 5, none⟩ = some (.bool (T 5))) ∧ (w'.cell? ⟨w1.heap.size, 0, none⟩ = some (.bool (R 0)) ∧ w'.cell? ⟨w1.heap.size, 1, none⟩ = some (.bool (R 1)) ∧ w'.cell? ⟨w1.heap.size, 2, none⟩ = some (.bool (R 2)) ∧ w'.cell? ⟨w1.heap.size, 3, none⟩ = some (.bool (R 3)) ∧ w'.cell? ⟨w1.heap.size, 4, none⟩ = some (.bool (R 4)) ∧ w'.cell? ⟨w1.heap.size, 5, none⟩ = some (.bool (R 5))) ∧ (w'.cell? ⟨b, o + 46, none⟩ = some (.bool (B 0)) ∧ w'.cell? ⟨b, o + 47, none⟩ = some (.bool (B 1)) ∧ w'.cell? ⟨b, o + 48, none⟩ = some (.bool (B 2)) ∧ w'.cell? ⟨b, o + 49, none⟩ = some (.bool (B 3)) ∧ w'.cell? ⟨b, o + 50, none⟩ = some (.bool (B 4)) ∧ w'.cell? ⟨b, o + 51, none⟩ = some (.bool (B 5)))) (first
      | exact HK.out _ hc6
      | exact HK.out _ hc5
      | exact HK.out _ (Below.al hc5)
      | exact HK.out _ hc4
      | exact HK.out _ (Below.al hc4)
      | exact HK.out _ (Below.refl _ _).drew
      | exact HK.out _ (Below.al (Below.refl _ _).drew)) (first
    | (go_at_call 68; refine (bothP_is R B _).mono ?_; rintro e w4 ⟨rfl, hb4⟩
       have hc4 : Below w3.heap.size w3 w4 := by first | exact Below.dr hb4 | exact Below.dr (Below.past hb4)
       first
         | (have HP4 : Hid (Arr w4 w3.heap.size 6 (fun _ => false)) := (arr_at w3.drew (fun _ => false) 56 _ rfl).below hb4 (by simp))
         | skip)
    | (go_at_call 66; refine (HRE3 _ (HG3.out.below (by first | exact hc4 | exact Below.al hc4) HG3.out.lt)).mono ?_; rintro e w5 ⟨rfl, hb5⟩
       have hc5 : Below w3.heap.size w3 w5 := by first | exact Below.to hc4 hb5 | exact Below.to hc4 (Below.past hb5)
       first
         | (have HP5 := (arr_at w4 (fun _ => false) 56 _ rfl).below hb5 (by simp)
            obtain ⟨w6, hrun6, hb6, hz6, hk6, HR6⟩ := stores6 HP5 D)
         | (have HP5 := Arr.below HP4 hb5 (Arr.lt HP4)
            obtain ⟨w6, hrun6, hb6, hz6, hk6, HR6⟩ := stores6 HP5 D)
         | (obtain ⟨w6, hrun6, hb6, hz6, hk6, HR6⟩ := stores6 (arr_zero w5 56) D)
       have hc6 : Below w3.heap.size w3 w6 := by
         first
           | exact hc5.trans (hb6.mono (by first | exact Nat.le_refl _ | exact hc4.size | exact hc5.size))
           | exact (Below.al hc5).trans (hb6.mono (by first | exact Nat.le_refl _ | exact hc4.size | exact hc5.size))))
  all_goals
    have HP6 : Hid (Arr w6 _ 6 _) := HR6
    have q7 : w3.heap.size ≤ Arr.blk HP6 := by first | exact Nat.le_refl _ | exact hc4.size | exact hc5.size
    have q3 : w.heap.size + 1 + 1 < w3.heap.size := HR3.out.lt
    have HT6 : Hid (Arr w6 (w.heap.size + 1) 6 T) := HT3.out.below hc6 HT3.out.lt
    have HRR : Hid (Arr w6 (w.heap.size + 1 + 1) 6 (fun _ => false)) := HR3.out.below hc6 HR3.out.lt
    have hbel6 : Below w.heap.size w w6 := Below.to hbel hc6
    have HG6 : Hid (Wy w6 b o G K f B) := HG.out.below hbel6 hgl
    clear HK hrun6 hb6 hz6 hk6 HR6
    obtain ⟨Q, hQ⟩ : ∃ Q, Q = Arr.blk HP6 := ⟨_, rfl⟩
    have HQ6 : Hid (Arr w6 Q 6 D) := by rw [hQ]; exact HP6.out
    rw [← hQ] at q7
    simp only [Arr.blk] at hQ
    clear HP6
    go_wp2_with fail
    rw [← hQ]
    clear hQ
    have e1 : w.heap.size + 1 + 1 ≠ Q := by omega
    have HK : Hid (∀ w', Below w6.heap.size w6 w' → (fun w' => (w'.cell? ⟨(w.heap.size + 1), 0, none⟩ = some (.bool (T 0)) ∧ w'.cell? ⟨(w.heap.size + 1), 1, none⟩ = some (.bool (T 1)) ∧ w'.cell? ⟨(w.heap.size + 1), 2, none⟩ = some (.bool (T 2)) ∧ w'.cell? ⟨(w.heap.size + 1), 3, none⟩ = some (.bool (T 3)) ∧ w'.cell? ⟨(w.heap.size + 1), 4, none⟩ = some (.bool (T 4)) ∧ w'.cell? ⟨(w.heap.size + 1), 5, none⟩ = some (.bool (T 5))) ∧ (w'.cell? ⟨Q, 0, none⟩ = some (.bool (D 0)) ∧ w'.cell? ⟨Q, 1, none⟩ = some (.bool (D 1)) ∧ w'.cell? ⟨Q, 2, none⟩ = some (.bool (D 2)) ∧ w'.cell? ⟨Q, 3, none⟩ = some (.bool (D 3)) ∧ w'.cell? ⟨Q, 4, none⟩ = some (.bool (D 4)) ∧ w'.cell? ⟨Q, 5, none⟩ = some (.bool (D 5)))) w') := fun w' h => ⟨cells1 (HT6.out.below h HT6.out.lt), cells1 (HQ6.out.below h HQ6.out.lt)⟩
    go_region_held3 (fun w' => (w'.cell? ⟨(w.heap.size + 1), 0, none⟩ = some (.bool (T 0)) ∧ w'.cell? ⟨(w.heap.size + 1), 1, none⟩ = some (.bool (T 1)) ∧ w'.cell? ⟨(w.heap.size + 1), 2, none⟩ = some (.bool (T 2)) ∧ w'.cell? ⟨(w.heap.size + 1), 3, none⟩ = some (.bool (T 3)) ∧ w'.cell? ⟨(w.heap.size + 1), 4, none⟩ = some (.bool (T 4)) ∧ w'.cell? ⟨(w.heap.size + 1), 5, none⟩ = some (.bool (T 5))) ∧ (w'.cell? ⟨Q, 0, none⟩ = some (.bool (D 0)) ∧ w'.cell? ⟨Q, 1, none⟩ = some (.bool (D 1)) ∧ w'.cell? ⟨Q, 2, none⟩ = some (.bool (D 2)) ∧ w'.cell? ⟨Q, 3, none⟩ = some (.bool (D 3)) ∧ w'.cell? ⟨Q, 4, none⟩ = some (.bool (D 4)) ∧ w'.cell? ⟨Q, 5, none⟩ = some (.bool (D 5)))) (first
        | exact ⟨cells1 HT9.out, cells1 HQ9.out⟩
        | exact HK.out _ hc8
        | exact HK.out _ hc7
        | exact HK.out _ (Below.refl _ _).drew) (first
      | (go_at_call 46; refine (HSY _ HG6.out.drew).mono ?_; rintro e w7 ⟨rfl, hb7⟩
         have hc7 : Below w6.heap.size w6 w7 := Below.dr hb7)
      | (go_at_call 69; refine (eitherP_is D E _).mono ?_; rintro e w8 ⟨rfl, hb8⟩
         have hc8 : Below w6.heap.size w6 w8 := Below.to hc7 hb8
         have HR8 : Hid (Arr w8 (w.heap.size + 1 + 1) 6 (fun _ => false)) := HRR.out.below hc8 HRR.out.lt
         obtain ⟨w9, hrun9, hb9, hz9, hk9, HR9'⟩ := stores6 HR8.out (fun j => D j || E j)
         have HR9 : Hid (Arr w9 (w.heap.size + 1 + 1) 6 (fun j => D j || E j)) := HR9'
         have HT9 : Hid (Arr w9 (w.heap.size + 1) 6 T) := (HT6.out.below hc8 HT6.out.lt).otherK hz9 hk9 (by omega)
         have HQ9 : Hid (Arr w9 Q 6 D) := (HQ6.out.below hc8 HQ6.out.lt).otherK hz9 hk9 (by omega)
         clear HR9'))
    all_goals
      go_wp2_with fail
      exact bodyPost_ret (resultS Try.results71 _ _ (w.heap.size + 1 + 1) _ rfl HR9.out) rfl ⟨rfl, (Below.to hbel6 hc8).trans (hb9.mono (by omega))⟩

end Go.Proofs.Ytcfbfdjmcabnkaa

namespace Go.Proofs.Ytcfbfdjmcabnkaa
open Go.RowKit Fw
set_option linter.unusedVariables false

theorem some_P (b o sg : Nat) (G : Gph) (K : Nat → ByteArray) (f : ByteArray) (S T : Nat → Bool) (hs : sg = 88 ∨ sg = 85 ∨ sg = 82) (hf : f.size ≤ 1000) (w : World) (HG : Hid (Wy w b o G K f (begP G (fsOf f)))) :
    Calls Try.prog 71 #[.pointer (some ⟨b, o, none⟩), .int .u8 (sg : Int), .agg (six S), .agg (six T)] w fun e w' => e = .returned (.agg (six (someP G (fsOf f) sg S T))) ∧ Below w.heap.size w w' := by
  rcases hs with rfl | rfl | rfl
  · exact someX_P b o G K f _ S T w HG
  · exact someU_P b o G K f _ S T w HG
  · exact someR_P b o G K f _ S T hf w HG

theorem opp_P (sg : Nat) (hs : sg = 88 ∨ sg = 85 ∨ sg = 82) (w : World) : Calls Try.prog 55 #[.int .u8 (sg : Int)] w fun e w' => e = .returned (.int .u8 ((Fw.flip sg : Nat) : Int)) ∧ w' = w := by
  rcases hs with rfl | rfl | rfl <;>
  · go_enter Try.func55, Try.ntmps55
    go_wp2_with fail
    go_ret
    exact ⟨rfl, rfl⟩

theorem flip_way {sg : Nat} (hs : sg = 88 ∨ sg = 85 ∨ sg = 82) : Fw.flip sg = 88 ∨ Fw.flip sg = 85 ∨ Fw.flip sg = 82 := by
  rcases hs with rfl | rfl | rfl <;> simp [Fw.flip]

set_option maxRecDepth 100000 in
set_option maxHeartbeats 4000000 in
theorem every_core (b o sg fl : Nat) (G : Gph) (K : Nat → ByteArray) (f : ByteArray) (B S T N : Nat → Bool) (w : World) (HG : Hid (Wy w b o G K f B))
    (HOP : ∀ W, Calls Try.prog 55 #[.int .u8 (sg : Int)] W fun e w' => e = .returned (.int .u8 (fl : Int)) ∧ w' = W)
    (HSO : ∀ W, Hid (Wy W b o G K f B) → Calls Try.prog 71 #[.pointer (some ⟨b, o, none⟩), .int .u8 (fl : Int), .agg (six fun j => !(S j)), .agg (six fun j => !(T j))] W fun e w' => e = .returned (.agg (six N)) ∧ Below W.heap.size W w') :
    Calls Try.prog 70 #[.pointer (some ⟨b, o, none⟩), .int .u8 (sg : Int), .agg (six S), .agg (six T)] w fun e w' => e = .returned (.agg (six fun j => !(N j))) ∧ Below w.heap.size w w' := by
  have hgl := HG.out.lt
  have HA0 : Hid (Arr (((w.alloc (.cells (six S) 56)).alloc (.cells (six T) 56)).alloc (.cells (six fun _ => false) 56)) w.heap.size 6 S) := ((arr_new w S 56).alloc _).alloc _
  have HT0 : Hid (Arr (((w.alloc (.cells (six S) 56)).alloc (.cells (six T) 56)).alloc (.cells (six fun _ => false) 56)) (w.heap.size + 1) 6 T) := (arr_at _ _ 56 _ (by simp)).alloc _
  have HR0 : Hid (Arr (((w.alloc (.cells (six S) 56)).alloc (.cells (six T) 56)).alloc (.cells (six fun _ => false) 56)) (w.heap.size + 1 + 1) 6 (fun _ => false)) := arr_at _ _ 56 _ (by simp)
  have hb0 := below3 w (.cells (six S) 56) (.cells (six T) 56) (.cells (six fun _ => false) 56)
  go_enter Try.func70, Try.ntmps70
  go_wp2_with fail
  generalize hW : ((w.alloc (Obj.cells (six S) 56)).alloc (Obj.cells (six T) 56)).alloc (Obj.cells #[Value.bool false, Value.bool false, Value.bool false, Value.bool false, Value.bool false, Value.bool false] 56) = w3
  have HA3 : Hid (Arr w3 w.heap.size 6 S) := by show Arr _ _ _ _; rw [← hW]; exact HA0.out
  have HT3 : Hid (Arr w3 (w.heap.size + 1) 6 T) := by show Arr _ _ _ _; rw [← hW]; exact HT0.out
  have HR3 : Hid (Arr w3 (w.heap.size + 1 + 1) 6 (fun _ => false)) := by show Arr _ _ _ _; rw [← hW]; exact HR0.out
  have hbel : Below w.heap.size w w3 := by rw [← hW]; exact hb0
  clear hW HA0 HT0 HR0 hb0
  have HG3 : Hid (Wy w3 b o G K f B) := HG.out.below hbel hgl
  have HK : Hid (∀ w', Below w3.heap.size w3 w' → (fun w' => (w'.cell? ⟨w.heap.size, 0, none⟩ = some (.bool (S 0)) ∧ w'.cell? ⟨w.heap.size, 1, none⟩ = some (.bool (S 1)) ∧ w'.cell? ⟨w.heap.size, 2, none⟩ = some (.bool (S 2)) ∧ w'.cell? ⟨w.heap.size, 3, none⟩ = some (.bool (S 3)) ∧ w'.cell? ⟨w.heap.size, 4, none⟩ = some (.bool (S 4)) ∧ w'.cell? ⟨w.heap.size, 5, none⟩ = some (.bool (S 5))) ∧ (w'.cell? ⟨(w.heap.size + 1), 0, none⟩ = some (.bool (T 0)) ∧ w'.cell? ⟨(w.heap.size + 1), 1, none⟩ = some (.bool (T 1)) ∧ w'.cell? ⟨(w.heap.size + 1), 2, none⟩ = some (.bool (T 2)) ∧ w'.cell? ⟨(w.heap.size + 1), 3, none⟩ = some (.bool (T 3)) ∧ w'.cell? ⟨(w.heap.size + 1), 4, none⟩ = some (.bool (T 4)) ∧ w'.cell? ⟨(w.heap.size + 1), 5, none⟩ = some (.bool (T 5)))) w') := fun w' h => ⟨cells1 (HA3.out.below h HA3.out.lt), cells1 (HT3.out.below h HT3.out.lt)⟩
  go_region_held3 (fun w' => (w'.cell? ⟨w.heap.size, 0, none⟩ = some (.bool (S 0)) ∧ w'.cell? ⟨w.heap.size, 1, none⟩ = some (.bool (S 1)) ∧ w'.cell? ⟨w.heap.size, 2, none⟩ = some (.bool (S 2)) ∧ w'.cell? ⟨w.heap.size, 3, none⟩ = some (.bool (S 3)) ∧ w'.cell? ⟨w.heap.size, 4, none⟩ = some (.bool (S 4)) ∧ w'.cell? ⟨w.heap.size, 5, none⟩ = some (.bool (S 5))) ∧ (w'.cell? ⟨(w.heap.size + 1), 0, none⟩ = some (.bool (T 0)) ∧ w'.cell? ⟨(w.heap.size + 1), 1, none⟩ = some (.bool (T 1)) ∧ w'.cell? ⟨(w.heap.size + 1), 2, none⟩ = some (.bool (T 2)) ∧ w'.cell? ⟨(w.heap.size + 1), 3, none⟩ = some (.bool (T 3)) ∧ w'.cell? ⟨(w.heap.size + 1), 4, none⟩ = some (.bool (T 4)) ∧ w'.cell? ⟨(w.heap.size + 1), 5, none⟩ = some (.bool (T 5)))) (first
      | exact HK.out _ hc7
      | exact HK.out _ hc6
      | exact HK.out _ (Below.al hc6)
      | exact HK.out _ hc5
      | exact HK.out _ (Below.al hc5)
      | exact HK.out _ hc4
      | exact HK.out _ (Below.al hc4)
      | exact HK.out _ (Below.refl _ _).drew
      | exact HK.out _ (Below.al (Below.refl _ _).drew)) (first
    | (go_at_call 55; refine (HOP _).mono ?_; rintro e w' ⟨rfl, rfl⟩)
    | (go_at_call_of 47 (S 0); refine (othersP_is S _).mono ?_; rintro e w4 ⟨rfl, hb4⟩
       have hc4 : Below w3.heap.size w3 w4 := by first | exact Below.dr hb4 | exact Below.dr (Below.past hb4)
       first
         | (have HP4 : Hid (Arr w4 w3.heap.size 6 (fun _ => false)) := (arr_at w3.drew (fun _ => false) 56 _ rfl).below hb4 (by simp))
         | skip)
    | (go_at_call_of 47 (T 0); refine (othersP_is T _).mono ?_; rintro e w5 ⟨rfl, hb5⟩
       have hc5 : Below w3.heap.size w3 w5 := by first | exact Below.to hc4 hb5 | exact Below.to hc4 (Below.past hb5)
       first
         | (have HP5 : Hid (Arr w5 w4.heap.size 6 (fun _ => false)) := (arr_at w4 (fun _ => false) 56 _ rfl).below hb5 (by simp))
         | (have HP5 := HP4.out.below hb5 HP4.out.lt)
         | skip)
    | (go_at_call 71; refine (HSO _ (HG3.out.below (by first | exact hc5 | exact Below.al hc5) HG3.out.lt)).mono ?_; rintro e w6 ⟨rfl, hb6⟩
       have hc6 : Below w3.heap.size w3 w6 := by first | exact Below.to hc5 hb6 | exact Below.to hc5 (Below.past hb6)
       first
         | (have HP6 := (arr_at w5 (fun _ => false) 56 _ rfl).below hb6 (by simp)
            obtain ⟨w7, hrun7, hb7, hz7, hk7, HR7⟩ := stores6 HP6 N)
         | (have HP6 := Arr.below HP5 hb6 (Arr.lt HP5)
            obtain ⟨w7, hrun7, hb7, hz7, hk7, HR7⟩ := stores6 HP6 N)
         | (obtain ⟨w7, hrun7, hb7, hz7, hk7, HR7⟩ := stores6 (arr_zero w6 56) N)
       have hc7 : Below w3.heap.size w3 w7 := by
         first
           | exact hc6.trans (hb7.mono (by first | exact Nat.le_refl _ | exact hc4.size | exact hc5.size | exact hc6.size))
           | exact (Below.al hc6).trans (hb7.mono (by first | exact Nat.le_refl _ | exact hc4.size | exact hc5.size | exact hc6.size))))
  all_goals
    have HP7 : Hid (Arr w7 _ 6 _) := HR7
    have hbel7 : Below w.heap.size w w7 := Below.to hbel hc7
    have HRR : Hid (Arr w7 (w.heap.size + 1 + 1) 6 (fun _ => false)) := HR3.out.below hc7 HR3.out.lt
    clear HK hrun7 hb7 hz7 hk7 HR7
    go_wp2_with (first
      | (refine loadS (by rfl) _ (by rfl) (Arr.blk HP7) (by rfl) N HP7.out ?_)
      | (go_at_call 47; refine (othersP_is N _).mono ?_; rintro e w8 ⟨rfl, hb8⟩)
      | (refine storeS (by rfl) _ _ (by rfl) (w.heap.size + 1 + 1) _ _ (by rfl) (by rfl) (HRR.out.below hb8 HRR.out.lt) ?_; intro w9 hb9 hz9 hk9 HR9))
    exact bodyPost_ret (resultS Try.results70 _ _ (w.heap.size + 1 + 1) _ rfl HR9) rfl ⟨rfl, (Below.to hbel7 hb8).trans (hb9.mono (by omega))⟩

theorem every_P (b o sg : Nat) (G : Gph) (K : Nat → ByteArray) (f : ByteArray) (S T : Nat → Bool) (hs : sg = 88 ∨ sg = 85 ∨ sg = 82) (hf : f.size ≤ 1000) (w : World) (HG : Hid (Wy w b o G K f (begP G (fsOf f)))) :
    Calls Try.prog 70 #[.pointer (some ⟨b, o, none⟩), .int .u8 (sg : Int), .agg (six S), .agg (six T)] w fun e w' => e = .returned (.agg (six (everyP G (fsOf f) sg S T))) ∧ Below w.heap.size w w' :=
  every_core b o sg (Fw.flip sg) G K f _ S T (someP G (fsOf f) (Fw.flip sg) (fun j => !(S j)) (fun j => !(T j))) w HG (fun W => opp_P sg hs W) (fun W h => some_P b o (Fw.flip sg) G K f _ _ (flip_way hs) hf W h)

end Go.Proofs.Ytcfbfdjmcabnkaa

namespace Go.Proofs.Ytcfbfdjmcabnkaa
open Go.RowKit Fw
set_option linter.unusedVariables false

/-- where a node holds, if its parts hold in S and T -/
def hold1 (G : Gph) (fs : List Nat) (sg wy : Nat) (S T : Nat → Bool) (i : Nat) : Bool :=
  if sg = 33 then !(S i)
  else if sg = 38 then S i && T i
  else if sg = 43 then S i || T i
  else if sg = 88 ∨ sg = 85 ∨ sg = 82 then (if wy = 65 then everyP G fs sg S T i else someP G fs sg S T i)
  else if sg = 84 then true
  else G.m i sg

theorem holdsP_node (G : Gph) (fs : List Nat) (sg wy : Nat) (u : Unit) (l r : Fm) : holdsP G fs (.node sg wy u l r) = hold1 G fs sg wy (holdsP G fs l) (holdsP G fs r) := by
  funext i
  rfl

set_option maxRecDepth 100000 in
set_option maxHeartbeats 4000000 in
theorem hold_84 (b o wy li ri k : Nat) (G : Gph) (K : Nat → ByteArray) (f : ByteArray) (B S T : Nat → Bool) (w : World) (HG : Hid (Wy w b o G K f B)) :
    Calls Try.prog 48 #[.pointer (some ⟨b, o, none⟩), .agg #[.int .u8 84, .int .u8 (wy : Int), .int .i64 (li : Int), .int .i64 (ri : Int), .int .i64 (k : Int)], .agg (six S), .agg (six T)] w fun e w' => e = .returned (.agg (six fun _ => true)) ∧ Below w.heap.size w w' := by
  have hgl := HG.out.lt
  obtain ⟨C, hC⟩ : ∃ C : Array Value, C = #[.int .u8 84, .int .u8 (wy : Int), .int .i64 (li : Int), .int .i64 (ri : Int), .int .i64 (k : Int)] := ⟨_, rfl⟩
  have HA0 : Hid (Arr ((((w.alloc (.cells C 84)).alloc (.cells (six S) 56)).alloc (.cells (six T) 56)).alloc (.cells (six fun _ => false) 56)) (w.heap.size + 1) 6 S) := ((arr_at _ _ 56 _ (by simp)).alloc _).alloc _
  have HT0 : Hid (Arr ((((w.alloc (.cells C 84)).alloc (.cells (six S) 56)).alloc (.cells (six T) 56)).alloc (.cells (six fun _ => false) 56)) (w.heap.size + 1 + 1) 6 T) := (arr_at _ _ 56 _ (by simp)).alloc _
  have HR0 : Hid (Arr ((((w.alloc (.cells C 84)).alloc (.cells (six S) 56)).alloc (.cells (six T) 56)).alloc (.cells (six fun _ => false) 56)) (w.heap.size + 1 + 1 + 1) 6 (fun _ => false)) := arr_at _ _ 56 _ (by simp)
  have hb0 := below4 w (.cells C 84) (.cells (six S) 56) (.cells (six T) 56) (.cells (six fun _ => false) 56)
  have HG0 : Hid (Wy _ b o G K f B) := HG.out.below hb0 hgl
  rw [hC] at HA0 HT0 HR0 hb0 HG0
  clear hC
  go_enter Try.func48, Try.ntmps48
  go_wp2_with (first
    | (refine loadS (by rfl) _ (by rfl) (w.heap.size + 1) (by rfl) S HA0.out ?_)
    | (refine loadS (by rfl) _ (by rfl) (w.heap.size + 1 + 1) (by rfl) T HT0.out ?_)
    | (go_at_call 47; refine (othersP_is (fun _ => false) _).mono ?_; rintro e w4 ⟨rfl, hb4⟩)
    | (refine storeS (by rfl) _ _ (by rfl) (w.heap.size + 1 + 1 + 1) _ _ (by rfl) (by rfl) (HR0.out.below hb4 HR0.out.lt) ?_; intro w5 hb5 hz5 hk5 HR5))
  exact bodyPost_ret (resultS Try.results48 _ _ (w.heap.size + 1 + 1 + 1) _ rfl HR5) rfl ⟨rfl, (Below.to hb0 hb4).trans (hb5.mono (by omega))⟩

set_option maxRecDepth 100000 in
set_option maxHeartbeats 4000000 in
theorem hold_33 (b o wy li ri k : Nat) (G : Gph) (K : Nat → ByteArray) (f : ByteArray) (B S T : Nat → Bool) (w : World) (HG : Hid (Wy w b o G K f B)) :
    Calls Try.prog 48 #[.pointer (some ⟨b, o, none⟩), .agg #[.int .u8 33, .int .u8 (wy : Int), .int .i64 (li : Int), .int .i64 (ri : Int), .int .i64 (k : Int)], .agg (six S), .agg (six T)] w fun e w' => e = .returned (.agg (six fun j => !(S j))) ∧ Below w.heap.size w w' := by
  have hgl := HG.out.lt
  obtain ⟨C, hC⟩ : ∃ C : Array Value, C = #[.int .u8 33, .int .u8 (wy : Int), .int .i64 (li : Int), .int .i64 (ri : Int), .int .i64 (k : Int)] := ⟨_, rfl⟩
  have HA0 : Hid (Arr ((((w.alloc (.cells C 84)).alloc (.cells (six S) 56)).alloc (.cells (six T) 56)).alloc (.cells (six fun _ => false) 56)) (w.heap.size + 1) 6 S) := ((arr_at _ _ 56 _ (by simp)).alloc _).alloc _
  have HT0 : Hid (Arr ((((w.alloc (.cells C 84)).alloc (.cells (six S) 56)).alloc (.cells (six T) 56)).alloc (.cells (six fun _ => false) 56)) (w.heap.size + 1 + 1) 6 T) := (arr_at _ _ 56 _ (by simp)).alloc _
  have HR0 : Hid (Arr ((((w.alloc (.cells C 84)).alloc (.cells (six S) 56)).alloc (.cells (six T) 56)).alloc (.cells (six fun _ => false) 56)) (w.heap.size + 1 + 1 + 1) 6 (fun _ => false)) := arr_at _ _ 56 _ (by simp)
  have hb0 := below4 w (.cells C 84) (.cells (six S) 56) (.cells (six T) 56) (.cells (six fun _ => false) 56)
  have HG0 : Hid (Wy _ b o G K f B) := HG.out.below hb0 hgl
  rw [hC] at HA0 HT0 HR0 hb0 HG0
  clear hC
  go_enter Try.func48, Try.ntmps48
  go_wp2_with (first
    | (refine loadS (by rfl) _ (by rfl) (w.heap.size + 1) (by rfl) S HA0.out ?_)
    | (refine loadS (by rfl) _ (by rfl) (w.heap.size + 1 + 1) (by rfl) T HT0.out ?_)
    | (go_at_call 47; refine (othersP_is S _).mono ?_; rintro e w4 ⟨rfl, hb4⟩)
    | (refine storeS (by rfl) _ _ (by rfl) (w.heap.size + 1 + 1 + 1) _ _ (by rfl) (by rfl) (HR0.out.below hb4 HR0.out.lt) ?_; intro w5 hb5 hz5 hk5 HR5))
  exact bodyPost_ret (resultS Try.results48 _ _ (w.heap.size + 1 + 1 + 1) _ rfl HR5) rfl ⟨rfl, (Below.to hb0 hb4).trans (hb5.mono (by omega))⟩

set_option maxRecDepth 100000 in
set_option maxHeartbeats 4000000 in
theorem hold_38 (b o wy li ri k : Nat) (G : Gph) (K : Nat → ByteArray) (f : ByteArray) (B S T : Nat → Bool) (w : World) (HG : Hid (Wy w b o G K f B)) :
    Calls Try.prog 48 #[.pointer (some ⟨b, o, none⟩), .agg #[.int .u8 38, .int .u8 (wy : Int), .int .i64 (li : Int), .int .i64 (ri : Int), .int .i64 (k : Int)], .agg (six S), .agg (six T)] w fun e w' => e = .returned (.agg (six fun j => S j && T j)) ∧ Below w.heap.size w w' := by
  have hgl := HG.out.lt
  obtain ⟨C, hC⟩ : ∃ C : Array Value, C = #[.int .u8 38, .int .u8 (wy : Int), .int .i64 (li : Int), .int .i64 (ri : Int), .int .i64 (k : Int)] := ⟨_, rfl⟩
  have HA0 : Hid (Arr ((((w.alloc (.cells C 84)).alloc (.cells (six S) 56)).alloc (.cells (six T) 56)).alloc (.cells (six fun _ => false) 56)) (w.heap.size + 1) 6 S) := ((arr_at _ _ 56 _ (by simp)).alloc _).alloc _
  have HT0 : Hid (Arr ((((w.alloc (.cells C 84)).alloc (.cells (six S) 56)).alloc (.cells (six T) 56)).alloc (.cells (six fun _ => false) 56)) (w.heap.size + 1 + 1) 6 T) := (arr_at _ _ 56 _ (by simp)).alloc _
  have HR0 : Hid (Arr ((((w.alloc (.cells C 84)).alloc (.cells (six S) 56)).alloc (.cells (six T) 56)).alloc (.cells (six fun _ => false) 56)) (w.heap.size + 1 + 1 + 1) 6 (fun _ => false)) := arr_at _ _ 56 _ (by simp)
  have hb0 := below4 w (.cells C 84) (.cells (six S) 56) (.cells (six T) 56) (.cells (six fun _ => false) 56)
  have HG0 : Hid (Wy _ b o G K f B) := HG.out.below hb0 hgl
  rw [hC] at HA0 HT0 HR0 hb0 HG0
  clear hC
  go_enter Try.func48, Try.ntmps48
  go_wp2_with (first
    | (refine loadS (by rfl) _ (by rfl) (w.heap.size + 1) (by rfl) S HA0.out ?_)
    | (refine loadS (by rfl) _ (by rfl) (w.heap.size + 1 + 1) (by rfl) T HT0.out ?_)
    | (go_at_call 68; refine (bothP_is S T _).mono ?_; rintro e w4 ⟨rfl, hb4⟩)
    | (refine storeS (by rfl) _ _ (by rfl) (w.heap.size + 1 + 1 + 1) _ _ (by rfl) (by rfl) (HR0.out.below hb4 HR0.out.lt) ?_; intro w5 hb5 hz5 hk5 HR5))
  exact bodyPost_ret (resultS Try.results48 _ _ (w.heap.size + 1 + 1 + 1) _ rfl HR5) rfl ⟨rfl, (Below.to hb0 hb4).trans (hb5.mono (by omega))⟩

set_option maxRecDepth 100000 in
set_option maxHeartbeats 4000000 in
theorem hold_43 (b o wy li ri k : Nat) (G : Gph) (K : Nat → ByteArray) (f : ByteArray) (B S T : Nat → Bool) (w : World) (HG : Hid (Wy w b o G K f B)) :
    Calls Try.prog 48 #[.pointer (some ⟨b, o, none⟩), .agg #[.int .u8 43, .int .u8 (wy : Int), .int .i64 (li : Int), .int .i64 (ri : Int), .int .i64 (k : Int)], .agg (six S), .agg (six T)] w fun e w' => e = .returned (.agg (six fun j => S j || T j)) ∧ Below w.heap.size w w' := by
  have hgl := HG.out.lt
  obtain ⟨C, hC⟩ : ∃ C : Array Value, C = #[.int .u8 43, .int .u8 (wy : Int), .int .i64 (li : Int), .int .i64 (ri : Int), .int .i64 (k : Int)] := ⟨_, rfl⟩
  have HA0 : Hid (Arr ((((w.alloc (.cells C 84)).alloc (.cells (six S) 56)).alloc (.cells (six T) 56)).alloc (.cells (six fun _ => false) 56)) (w.heap.size + 1) 6 S) := ((arr_at _ _ 56 _ (by simp)).alloc _).alloc _
  have HT0 : Hid (Arr ((((w.alloc (.cells C 84)).alloc (.cells (six S) 56)).alloc (.cells (six T) 56)).alloc (.cells (six fun _ => false) 56)) (w.heap.size + 1 + 1) 6 T) := (arr_at _ _ 56 _ (by simp)).alloc _
  have HR0 : Hid (Arr ((((w.alloc (.cells C 84)).alloc (.cells (six S) 56)).alloc (.cells (six T) 56)).alloc (.cells (six fun _ => false) 56)) (w.heap.size + 1 + 1 + 1) 6 (fun _ => false)) := arr_at _ _ 56 _ (by simp)
  have hb0 := below4 w (.cells C 84) (.cells (six S) 56) (.cells (six T) 56) (.cells (six fun _ => false) 56)
  have HG0 : Hid (Wy _ b o G K f B) := HG.out.below hb0 hgl
  rw [hC] at HA0 HT0 HR0 hb0 HG0
  clear hC
  go_enter Try.func48, Try.ntmps48
  go_wp2_with (first
    | (refine loadS (by rfl) _ (by rfl) (w.heap.size + 1) (by rfl) S HA0.out ?_)
    | (refine loadS (by rfl) _ (by rfl) (w.heap.size + 1 + 1) (by rfl) T HT0.out ?_)
    | (go_at_call 69; refine (eitherP_is S T _).mono ?_; rintro e w4 ⟨rfl, hb4⟩)
    | (refine storeS (by rfl) _ _ (by rfl) (w.heap.size + 1 + 1 + 1) _ _ (by rfl) (by rfl) (HR0.out.below hb4 HR0.out.lt) ?_; intro w5 hb5 hz5 hk5 HR5))
  exact bodyPost_ret (resultS Try.results48 _ _ (w.heap.size + 1 + 1 + 1) _ rfl HR5) rfl ⟨rfl, (Below.to hb0 hb4).trans (hb5.mono (by omega))⟩

set_option maxRecDepth 100000 in
set_option maxHeartbeats 4000000 in
theorem hold_let (b o sg wy li ri k : Nat) (G : Gph) (K : Nat → ByteArray) (f : ByteArray) (B S T : Nat → Bool) (b84 : ((sg : Int) == 84) = false) (b33 : ((sg : Int) == 33) = false) (b38 : ((sg : Int) == 38) = false) (b43 : ((sg : Int) == 43) = false) (b88 : ((sg : Int) == 88) = false) (b85 : ((sg : Int) == 85) = false) (b82 : ((sg : Int) == 82) = false) (w : World) (HG : Hid (Wy w b o G K f B)) :
    Calls Try.prog 48 #[.pointer (some ⟨b, o, none⟩), .agg #[.int .u8 (sg : Int), .int .u8 (wy : Int), .int .i64 (li : Int), .int .i64 (ri : Int), .int .i64 (k : Int)], .agg (six S), .agg (six T)] w fun e w' => e = .returned (.agg (six fun j => G.m j sg)) ∧ Below w.heap.size w w' := by
  have hgl := HG.out.lt
  obtain ⟨C, hC⟩ : ∃ C : Array Value, C = #[.int .u8 (sg : Int), .int .u8 (wy : Int), .int .i64 (li : Int), .int .i64 (ri : Int), .int .i64 (k : Int)] := ⟨_, rfl⟩
  have HA0 : Hid (Arr ((((w.alloc (.cells C 84)).alloc (.cells (six S) 56)).alloc (.cells (six T) 56)).alloc (.cells (six fun _ => false) 56)) (w.heap.size + 1) 6 S) := ((arr_at _ _ 56 _ (by simp)).alloc _).alloc _
  have HT0 : Hid (Arr ((((w.alloc (.cells C 84)).alloc (.cells (six S) 56)).alloc (.cells (six T) 56)).alloc (.cells (six fun _ => false) 56)) (w.heap.size + 1 + 1) 6 T) := (arr_at _ _ 56 _ (by simp)).alloc _
  have HR0 : Hid (Arr ((((w.alloc (.cells C 84)).alloc (.cells (six S) 56)).alloc (.cells (six T) 56)).alloc (.cells (six fun _ => false) 56)) (w.heap.size + 1 + 1 + 1) 6 (fun _ => false)) := arr_at _ _ 56 _ (by simp)
  have hb0 := below4 w (.cells C 84) (.cells (six S) 56) (.cells (six T) 56) (.cells (six fun _ => false) 56)
  have HG0 : Hid (Wy _ b o G K f B) := HG.out.below hb0 hgl
  rw [hC] at HA0 HT0 HR0 hb0 HG0
  clear hC
  have HBE := fun W (h : Hid (Wy W b o G K f B)) => bearing_P b o sg G K f B W h
  go_enter Try.func48, Try.ntmps48
  go_wp2_with (first
    | (refine loadS (by rfl) _ (by rfl) (w.heap.size + 1) (by rfl) S HA0.out ?_)
    | (refine loadS (by rfl) _ (by rfl) (w.heap.size + 1 + 1) (by rfl) T HT0.out ?_)
    | (go_at_call 72; refine (HBE _ HG0).mono ?_; rintro e w4 ⟨rfl, hb4⟩)
    | (refine storeS (by rfl) _ _ (by rfl) (w.heap.size + 1 + 1 + 1) _ _ (by rfl) (by rfl) (HR0.out.below hb4 HR0.out.lt) ?_; intro w5 hb5 hz5 hk5 HR5))
  exact bodyPost_ret (resultS Try.results48 _ _ (w.heap.size + 1 + 1 + 1) _ rfl HR5) rfl ⟨rfl, (Below.to hb0 hb4).trans (hb5.mono (by omega))⟩

end Go.Proofs.Ytcfbfdjmcabnkaa

namespace Go.Proofs.Ytcfbfdjmcabnkaa
open Go.RowKit Fw
set_option linter.unusedVariables false

set_option maxRecDepth 100000 in
set_option maxHeartbeats 4000000 in
theorem hold_88A (b o wy li ri k : Nat) (G : Gph) (K : Nat → ByteArray) (f : ByteArray) (B S T N : Nat → Bool) (hwy : ((wy : Int) == 65) = true) (HSO : ∀ W, Hid (Wy W b o G K f B) → Calls Try.prog 70 #[.pointer (some ⟨b, o, none⟩), .int .u8 88, .agg (six S), .agg (six T)] W fun e w' => e = .returned (.agg (six N)) ∧ Below W.heap.size W w') (w : World) (HG : Hid (Wy w b o G K f B)) :
    Calls Try.prog 48 #[.pointer (some ⟨b, o, none⟩), .agg #[.int .u8 88, .int .u8 (wy : Int), .int .i64 (li : Int), .int .i64 (ri : Int), .int .i64 (k : Int)], .agg (six S), .agg (six T)] w fun e w' => e = .returned (.agg (six N)) ∧ Below w.heap.size w w' := by
  have hgl := HG.out.lt
  obtain ⟨C, hC⟩ : ∃ C : Array Value, C = #[.int .u8 88, .int .u8 (wy : Int), .int .i64 (li : Int), .int .i64 (ri : Int), .int .i64 (k : Int)] := ⟨_, rfl⟩
  have HA0 : Hid (Arr ((((w.alloc (.cells C 84)).alloc (.cells (six S) 56)).alloc (.cells (six T) 56)).alloc (.cells (six fun _ => false) 56)) (w.heap.size + 1) 6 S) := ((arr_at _ _ 56 _ (by simp)).alloc _).alloc _
  have HT0 : Hid (Arr ((((w.alloc (.cells C 84)).alloc (.cells (six S) 56)).alloc (.cells (six T) 56)).alloc (.cells (six fun _ => false) 56)) (w.heap.size + 1 + 1) 6 T) := (arr_at _ _ 56 _ (by simp)).alloc _
  have HR0 : Hid (Arr ((((w.alloc (.cells C 84)).alloc (.cells (six S) 56)).alloc (.cells (six T) 56)).alloc (.cells (six fun _ => false) 56)) (w.heap.size + 1 + 1 + 1) 6 (fun _ => false)) := arr_at _ _ 56 _ (by simp)
  have hb0 := below4 w (.cells C 84) (.cells (six S) 56) (.cells (six T) 56) (.cells (six fun _ => false) 56)
  have HG0 : Hid (Wy _ b o G K f B) := HG.out.below hb0 hgl
  rw [hC] at HA0 HT0 HR0 hb0 HG0
  clear hC
  go_enter Try.func48, Try.ntmps48
  go_wp2_with (first
    | (refine loadS (by rfl) _ (by rfl) (w.heap.size + 1) (by rfl) S HA0.out ?_)
    | (refine loadS (by rfl) _ (by rfl) (w.heap.size + 1 + 1) (by rfl) T HT0.out ?_)
    | (go_at_call 70; refine (HSO _ HG0).mono ?_; rintro e w4 ⟨rfl, hb4⟩)
    | (refine storeS (by rfl) _ _ (by rfl) (w.heap.size + 1 + 1 + 1) _ _ (by rfl) (by rfl) (HR0.out.below hb4 HR0.out.lt) ?_; intro w5 hb5 hz5 hk5 HR5))
  exact bodyPost_ret (resultS Try.results48 _ _ (w.heap.size + 1 + 1 + 1) _ rfl HR5) rfl ⟨rfl, (Below.to hb0 hb4).trans (hb5.mono (by omega))⟩

set_option maxRecDepth 100000 in
set_option maxHeartbeats 4000000 in
theorem hold_88E (b o wy li ri k : Nat) (G : Gph) (K : Nat → ByteArray) (f : ByteArray) (B S T N : Nat → Bool) (hwy : ((wy : Int) == 65) = false) (HSO : ∀ W, Hid (Wy W b o G K f B) → Calls Try.prog 71 #[.pointer (some ⟨b, o, none⟩), .int .u8 88, .agg (six S), .agg (six T)] W fun e w' => e = .returned (.agg (six N)) ∧ Below W.heap.size W w') (w : World) (HG : Hid (Wy w b o G K f B)) :
    Calls Try.prog 48 #[.pointer (some ⟨b, o, none⟩), .agg #[.int .u8 88, .int .u8 (wy : Int), .int .i64 (li : Int), .int .i64 (ri : Int), .int .i64 (k : Int)], .agg (six S), .agg (six T)] w fun e w' => e = .returned (.agg (six N)) ∧ Below w.heap.size w w' := by
  have hgl := HG.out.lt
  obtain ⟨C, hC⟩ : ∃ C : Array Value, C = #[.int .u8 88, .int .u8 (wy : Int), .int .i64 (li : Int), .int .i64 (ri : Int), .int .i64 (k : Int)] := ⟨_, rfl⟩
  have HA0 : Hid (Arr ((((w.alloc (.cells C 84)).alloc (.cells (six S) 56)).alloc (.cells (six T) 56)).alloc (.cells (six fun _ => false) 56)) (w.heap.size + 1) 6 S) := ((arr_at _ _ 56 _ (by simp)).alloc _).alloc _
  have HT0 : Hid (Arr ((((w.alloc (.cells C 84)).alloc (.cells (six S) 56)).alloc (.cells (six T) 56)).alloc (.cells (six fun _ => false) 56)) (w.heap.size + 1 + 1) 6 T) := (arr_at _ _ 56 _ (by simp)).alloc _
  have HR0 : Hid (Arr ((((w.alloc (.cells C 84)).alloc (.cells (six S) 56)).alloc (.cells (six T) 56)).alloc (.cells (six fun _ => false) 56)) (w.heap.size + 1 + 1 + 1) 6 (fun _ => false)) := arr_at _ _ 56 _ (by simp)
  have hb0 := below4 w (.cells C 84) (.cells (six S) 56) (.cells (six T) 56) (.cells (six fun _ => false) 56)
  have HG0 : Hid (Wy _ b o G K f B) := HG.out.below hb0 hgl
  rw [hC] at HA0 HT0 HR0 hb0 HG0
  clear hC
  go_enter Try.func48, Try.ntmps48
  go_wp2_with (first
    | (refine loadS (by rfl) _ (by rfl) (w.heap.size + 1) (by rfl) S HA0.out ?_)
    | (refine loadS (by rfl) _ (by rfl) (w.heap.size + 1 + 1) (by rfl) T HT0.out ?_)
    | (go_at_call 71; refine (HSO _ HG0).mono ?_; rintro e w4 ⟨rfl, hb4⟩)
    | (refine storeS (by rfl) _ _ (by rfl) (w.heap.size + 1 + 1 + 1) _ _ (by rfl) (by rfl) (HR0.out.below hb4 HR0.out.lt) ?_; intro w5 hb5 hz5 hk5 HR5))
  exact bodyPost_ret (resultS Try.results48 _ _ (w.heap.size + 1 + 1 + 1) _ rfl HR5) rfl ⟨rfl, (Below.to hb0 hb4).trans (hb5.mono (by omega))⟩

set_option maxRecDepth 100000 in
set_option maxHeartbeats 4000000 in
theorem hold_85A (b o wy li ri k : Nat) (G : Gph) (K : Nat → ByteArray) (f : ByteArray) (B S T N : Nat → Bool) (hwy : ((wy : Int) == 65) = true) (HSO : ∀ W, Hid (Wy W b o G K f B) → Calls Try.prog 70 #[.pointer (some ⟨b, o, none⟩), .int .u8 85, .agg (six S), .agg (six T)] W fun e w' => e = .returned (.agg (six N)) ∧ Below W.heap.size W w') (w : World) (HG : Hid (Wy w b o G K f B)) :
    Calls Try.prog 48 #[.pointer (some ⟨b, o, none⟩), .agg #[.int .u8 85, .int .u8 (wy : Int), .int .i64 (li : Int), .int .i64 (ri : Int), .int .i64 (k : Int)], .agg (six S), .agg (six T)] w fun e w' => e = .returned (.agg (six N)) ∧ Below w.heap.size w w' := by
  have hgl := HG.out.lt
  obtain ⟨C, hC⟩ : ∃ C : Array Value, C = #[.int .u8 85, .int .u8 (wy : Int), .int .i64 (li : Int), .int .i64 (ri : Int), .int .i64 (k : Int)] := ⟨_, rfl⟩
  have HA0 : Hid (Arr ((((w.alloc (.cells C 84)).alloc (.cells (six S) 56)).alloc (.cells (six T) 56)).alloc (.cells (six fun _ => false) 56)) (w.heap.size + 1) 6 S) := ((arr_at _ _ 56 _ (by simp)).alloc _).alloc _
  have HT0 : Hid (Arr ((((w.alloc (.cells C 84)).alloc (.cells (six S) 56)).alloc (.cells (six T) 56)).alloc (.cells (six fun _ => false) 56)) (w.heap.size + 1 + 1) 6 T) := (arr_at _ _ 56 _ (by simp)).alloc _
  have HR0 : Hid (Arr ((((w.alloc (.cells C 84)).alloc (.cells (six S) 56)).alloc (.cells (six T) 56)).alloc (.cells (six fun _ => false) 56)) (w.heap.size + 1 + 1 + 1) 6 (fun _ => false)) := arr_at _ _ 56 _ (by simp)
  have hb0 := below4 w (.cells C 84) (.cells (six S) 56) (.cells (six T) 56) (.cells (six fun _ => false) 56)
  have HG0 : Hid (Wy _ b o G K f B) := HG.out.below hb0 hgl
  rw [hC] at HA0 HT0 HR0 hb0 HG0
  clear hC
  go_enter Try.func48, Try.ntmps48
  go_wp2_with (first
    | (refine loadS (by rfl) _ (by rfl) (w.heap.size + 1) (by rfl) S HA0.out ?_)
    | (refine loadS (by rfl) _ (by rfl) (w.heap.size + 1 + 1) (by rfl) T HT0.out ?_)
    | (go_at_call 70; refine (HSO _ HG0).mono ?_; rintro e w4 ⟨rfl, hb4⟩)
    | (refine storeS (by rfl) _ _ (by rfl) (w.heap.size + 1 + 1 + 1) _ _ (by rfl) (by rfl) (HR0.out.below hb4 HR0.out.lt) ?_; intro w5 hb5 hz5 hk5 HR5))
  exact bodyPost_ret (resultS Try.results48 _ _ (w.heap.size + 1 + 1 + 1) _ rfl HR5) rfl ⟨rfl, (Below.to hb0 hb4).trans (hb5.mono (by omega))⟩

set_option maxRecDepth 100000 in
set_option maxHeartbeats 4000000 in
theorem hold_85E (b o wy li ri k : Nat) (G : Gph) (K : Nat → ByteArray) (f : ByteArray) (B S T N : Nat → Bool) (hwy : ((wy : Int) == 65) = false) (HSO : ∀ W, Hid (Wy W b o G K f B) → Calls Try.prog 71 #[.pointer (some ⟨b, o, none⟩), .int .u8 85, .agg (six S), .agg (six T)] W fun e w' => e = .returned (.agg (six N)) ∧ Below W.heap.size W w') (w : World) (HG : Hid (Wy w b o G K f B)) :
    Calls Try.prog 48 #[.pointer (some ⟨b, o, none⟩), .agg #[.int .u8 85, .int .u8 (wy : Int), .int .i64 (li : Int), .int .i64 (ri : Int), .int .i64 (k : Int)], .agg (six S), .agg (six T)] w fun e w' => e = .returned (.agg (six N)) ∧ Below w.heap.size w w' := by
  have hgl := HG.out.lt
  obtain ⟨C, hC⟩ : ∃ C : Array Value, C = #[.int .u8 85, .int .u8 (wy : Int), .int .i64 (li : Int), .int .i64 (ri : Int), .int .i64 (k : Int)] := ⟨_, rfl⟩
  have HA0 : Hid (Arr ((((w.alloc (.cells C 84)).alloc (.cells (six S) 56)).alloc (.cells (six T) 56)).alloc (.cells (six fun _ => false) 56)) (w.heap.size + 1) 6 S) := ((arr_at _ _ 56 _ (by simp)).alloc _).alloc _
  have HT0 : Hid (Arr ((((w.alloc (.cells C 84)).alloc (.cells (six S) 56)).alloc (.cells (six T) 56)).alloc (.cells (six fun _ => false) 56)) (w.heap.size + 1 + 1) 6 T) := (arr_at _ _ 56 _ (by simp)).alloc _
  have HR0 : Hid (Arr ((((w.alloc (.cells C 84)).alloc (.cells (six S) 56)).alloc (.cells (six T) 56)).alloc (.cells (six fun _ => false) 56)) (w.heap.size + 1 + 1 + 1) 6 (fun _ => false)) := arr_at _ _ 56 _ (by simp)
  have hb0 := below4 w (.cells C 84) (.cells (six S) 56) (.cells (six T) 56) (.cells (six fun _ => false) 56)
  have HG0 : Hid (Wy _ b o G K f B) := HG.out.below hb0 hgl
  rw [hC] at HA0 HT0 HR0 hb0 HG0
  clear hC
  go_enter Try.func48, Try.ntmps48
  go_wp2_with (first
    | (refine loadS (by rfl) _ (by rfl) (w.heap.size + 1) (by rfl) S HA0.out ?_)
    | (refine loadS (by rfl) _ (by rfl) (w.heap.size + 1 + 1) (by rfl) T HT0.out ?_)
    | (go_at_call 71; refine (HSO _ HG0).mono ?_; rintro e w4 ⟨rfl, hb4⟩)
    | (refine storeS (by rfl) _ _ (by rfl) (w.heap.size + 1 + 1 + 1) _ _ (by rfl) (by rfl) (HR0.out.below hb4 HR0.out.lt) ?_; intro w5 hb5 hz5 hk5 HR5))
  exact bodyPost_ret (resultS Try.results48 _ _ (w.heap.size + 1 + 1 + 1) _ rfl HR5) rfl ⟨rfl, (Below.to hb0 hb4).trans (hb5.mono (by omega))⟩

set_option maxRecDepth 100000 in
set_option maxHeartbeats 4000000 in
theorem hold_82A (b o wy li ri k : Nat) (G : Gph) (K : Nat → ByteArray) (f : ByteArray) (B S T N : Nat → Bool) (hwy : ((wy : Int) == 65) = true) (HSO : ∀ W, Hid (Wy W b o G K f B) → Calls Try.prog 70 #[.pointer (some ⟨b, o, none⟩), .int .u8 82, .agg (six S), .agg (six T)] W fun e w' => e = .returned (.agg (six N)) ∧ Below W.heap.size W w') (w : World) (HG : Hid (Wy w b o G K f B)) :
    Calls Try.prog 48 #[.pointer (some ⟨b, o, none⟩), .agg #[.int .u8 82, .int .u8 (wy : Int), .int .i64 (li : Int), .int .i64 (ri : Int), .int .i64 (k : Int)], .agg (six S), .agg (six T)] w fun e w' => e = .returned (.agg (six N)) ∧ Below w.heap.size w w' := by
  have hgl := HG.out.lt
  obtain ⟨C, hC⟩ : ∃ C : Array Value, C = #[.int .u8 82, .int .u8 (wy : Int), .int .i64 (li : Int), .int .i64 (ri : Int), .int .i64 (k : Int)] := ⟨_, rfl⟩
  have HA0 : Hid (Arr ((((w.alloc (.cells C 84)).alloc (.cells (six S) 56)).alloc (.cells (six T) 56)).alloc (.cells (six fun _ => false) 56)) (w.heap.size + 1) 6 S) := ((arr_at _ _ 56 _ (by simp)).alloc _).alloc _
  have HT0 : Hid (Arr ((((w.alloc (.cells C 84)).alloc (.cells (six S) 56)).alloc (.cells (six T) 56)).alloc (.cells (six fun _ => false) 56)) (w.heap.size + 1 + 1) 6 T) := (arr_at _ _ 56 _ (by simp)).alloc _
  have HR0 : Hid (Arr ((((w.alloc (.cells C 84)).alloc (.cells (six S) 56)).alloc (.cells (six T) 56)).alloc (.cells (six fun _ => false) 56)) (w.heap.size + 1 + 1 + 1) 6 (fun _ => false)) := arr_at _ _ 56 _ (by simp)
  have hb0 := below4 w (.cells C 84) (.cells (six S) 56) (.cells (six T) 56) (.cells (six fun _ => false) 56)
  have HG0 : Hid (Wy _ b o G K f B) := HG.out.below hb0 hgl
  rw [hC] at HA0 HT0 HR0 hb0 HG0
  clear hC
  go_enter Try.func48, Try.ntmps48
  go_wp2_with (first
    | (refine loadS (by rfl) _ (by rfl) (w.heap.size + 1) (by rfl) S HA0.out ?_)
    | (refine loadS (by rfl) _ (by rfl) (w.heap.size + 1 + 1) (by rfl) T HT0.out ?_)
    | (go_at_call 70; refine (HSO _ HG0).mono ?_; rintro e w4 ⟨rfl, hb4⟩)
    | (refine storeS (by rfl) _ _ (by rfl) (w.heap.size + 1 + 1 + 1) _ _ (by rfl) (by rfl) (HR0.out.below hb4 HR0.out.lt) ?_; intro w5 hb5 hz5 hk5 HR5))
  exact bodyPost_ret (resultS Try.results48 _ _ (w.heap.size + 1 + 1 + 1) _ rfl HR5) rfl ⟨rfl, (Below.to hb0 hb4).trans (hb5.mono (by omega))⟩

set_option maxRecDepth 100000 in
set_option maxHeartbeats 4000000 in
theorem hold_82E (b o wy li ri k : Nat) (G : Gph) (K : Nat → ByteArray) (f : ByteArray) (B S T N : Nat → Bool) (hwy : ((wy : Int) == 65) = false) (HSO : ∀ W, Hid (Wy W b o G K f B) → Calls Try.prog 71 #[.pointer (some ⟨b, o, none⟩), .int .u8 82, .agg (six S), .agg (six T)] W fun e w' => e = .returned (.agg (six N)) ∧ Below W.heap.size W w') (w : World) (HG : Hid (Wy w b o G K f B)) :
    Calls Try.prog 48 #[.pointer (some ⟨b, o, none⟩), .agg #[.int .u8 82, .int .u8 (wy : Int), .int .i64 (li : Int), .int .i64 (ri : Int), .int .i64 (k : Int)], .agg (six S), .agg (six T)] w fun e w' => e = .returned (.agg (six N)) ∧ Below w.heap.size w w' := by
  have hgl := HG.out.lt
  obtain ⟨C, hC⟩ : ∃ C : Array Value, C = #[.int .u8 82, .int .u8 (wy : Int), .int .i64 (li : Int), .int .i64 (ri : Int), .int .i64 (k : Int)] := ⟨_, rfl⟩
  have HA0 : Hid (Arr ((((w.alloc (.cells C 84)).alloc (.cells (six S) 56)).alloc (.cells (six T) 56)).alloc (.cells (six fun _ => false) 56)) (w.heap.size + 1) 6 S) := ((arr_at _ _ 56 _ (by simp)).alloc _).alloc _
  have HT0 : Hid (Arr ((((w.alloc (.cells C 84)).alloc (.cells (six S) 56)).alloc (.cells (six T) 56)).alloc (.cells (six fun _ => false) 56)) (w.heap.size + 1 + 1) 6 T) := (arr_at _ _ 56 _ (by simp)).alloc _
  have HR0 : Hid (Arr ((((w.alloc (.cells C 84)).alloc (.cells (six S) 56)).alloc (.cells (six T) 56)).alloc (.cells (six fun _ => false) 56)) (w.heap.size + 1 + 1 + 1) 6 (fun _ => false)) := arr_at _ _ 56 _ (by simp)
  have hb0 := below4 w (.cells C 84) (.cells (six S) 56) (.cells (six T) 56) (.cells (six fun _ => false) 56)
  have HG0 : Hid (Wy _ b o G K f B) := HG.out.below hb0 hgl
  rw [hC] at HA0 HT0 HR0 hb0 HG0
  clear hC
  go_enter Try.func48, Try.ntmps48
  go_wp2_with (first
    | (refine loadS (by rfl) _ (by rfl) (w.heap.size + 1) (by rfl) S HA0.out ?_)
    | (refine loadS (by rfl) _ (by rfl) (w.heap.size + 1 + 1) (by rfl) T HT0.out ?_)
    | (go_at_call 71; refine (HSO _ HG0).mono ?_; rintro e w4 ⟨rfl, hb4⟩)
    | (refine storeS (by rfl) _ _ (by rfl) (w.heap.size + 1 + 1 + 1) _ _ (by rfl) (by rfl) (HR0.out.below hb4 HR0.out.lt) ?_; intro w5 hb5 hz5 hk5 HR5))
  exact bodyPost_ret (resultS Try.results48 _ _ (w.heap.size + 1 + 1 + 1) _ rfl HR5) rfl ⟨rfl, (Below.to hb0 hb4).trans (hb5.mono (by omega))⟩


theorem hold_P (b o sg wy li ri k : Nat) (G : Gph) (K : Nat → ByteArray) (f : ByteArray) (S T : Nat → Bool) (hf : f.size ≤ 1000) (w : World) (HG : Hid (Wy w b o G K f (begP G (fsOf f)))) :
    Calls Try.prog 48 #[.pointer (some ⟨b, o, none⟩), .agg #[.int .u8 (sg : Int), .int .u8 (wy : Int), .int .i64 (li : Int), .int .i64 (ri : Int), .int .i64 (k : Int)], .agg (six S), .agg (six T)] w fun e w' => e = .returned (.agg (six (hold1 G (fsOf f) sg wy S T))) ∧ Below w.heap.size w w' := by
  by_cases h1 : sg = 33
  · subst h1; exact hold_33 b o wy li ri k G K f _ S T w HG
  by_cases h2 : sg = 38
  · subst h2; exact hold_38 b o wy li ri k G K f _ S T w HG
  by_cases h3 : sg = 43
  · subst h3; exact hold_43 b o wy li ri k G K f _ S T w HG
  by_cases h4 : sg = 84
  · subst h4; exact hold_84 b o wy li ri k G K f _ S T w HG
  by_cases h5 : sg = 88 ∨ sg = 85 ∨ sg = 82
  · by_cases hw : wy = 65
    · have hw' : ((wy : Int) == 65) = true := by rw [beq_iff_eq]; omega
      have e1 : hold1 G (fsOf f) sg wy S T = everyP G (fsOf f) sg S T := by
        funext i
        unfold hold1
        rw [if_neg h1, if_neg h2, if_neg h3, if_pos h5, if_pos hw]
      rw [e1]
      have HSO := fun W (h : Hid (Wy W b o G K f (begP G (fsOf f)))) => every_P b o sg G K f S T h5 hf W h
      rcases h5 with rfl | rfl | rfl
      · exact hold_88A b o wy li ri k G K f _ S T _ hw' HSO w HG
      · exact hold_85A b o wy li ri k G K f _ S T _ hw' HSO w HG
      · exact hold_82A b o wy li ri k G K f _ S T _ hw' HSO w HG
    · have hw' : ((wy : Int) == 65) = false := by rw [beq_eq_false_iff_ne]; omega
      have e1 : hold1 G (fsOf f) sg wy S T = someP G (fsOf f) sg S T := by
        funext i
        unfold hold1
        rw [if_neg h1, if_neg h2, if_neg h3, if_pos h5, if_neg hw]
      rw [e1]
      have HSO := fun W (h : Hid (Wy W b o G K f (begP G (fsOf f)))) => some_P b o sg G K f S T h5 hf W h
      rcases h5 with rfl | rfl | rfl
      · exact hold_88E b o wy li ri k G K f _ S T _ hw' HSO w HG
      · exact hold_85E b o wy li ri k G K f _ S T _ hw' HSO w HG
      · exact hold_82E b o wy li ri k G K f _ S T _ hw' HSO w HG
  · have e1 : hold1 G (fsOf f) sg wy S T = fun j => G.m j sg := by
      funext i
      unfold hold1
      rw [if_neg h1, if_neg h2, if_neg h3, if_neg h5, if_neg h4]
    rw [e1]
    exact hold_let b o sg wy li ri k G K f _ S T (by rw [beq_eq_false_iff_ne]; omega) (by rw [beq_eq_false_iff_ne]; omega) (by rw [beq_eq_false_iff_ne]; omega) (by rw [beq_eq_false_iff_ne]; omega) (by rw [beq_eq_false_iff_ne]; omega) (by rw [beq_eq_false_iff_ne]; omega) (by rw [beq_eq_false_iff_ne]; omega) w HG

end Go.Proofs.Ytcfbfdjmcabnkaa

