import Derived.Test.YtkjnhhbibaimfaaPg
namespace Go.Proofs.Ytkjnhhbibaimfaa
open Go.RowKit Fw
set_option linter.unusedVariables false

theorem Wy.begin {w : World} {b o : Nat} {G : Gph} {K : Nat → ByteArray} {f : ByteArray} {B : Nat → Bool} (h : Wy w b o G K f B) : (w.cell? ⟨b, o + 46, none⟩ = some (.bool (B 0)) ∧ w.cell? ⟨b, o + 47, none⟩ = some (.bool (B 1)) ∧ w.cell? ⟨b, o + 48, none⟩ = some (.bool (B 2)) ∧ w.cell? ⟨b, o + 49, none⟩ = some (.bool (B 3)) ∧ w.cell? ⟨b, o + 50, none⟩ = some (.bool (B 4)) ∧ w.cell? ⟨b, o + 51, none⟩ = some (.bool (B 5))) :=
  ⟨h.cb 0 (by omega), h.cb 1 (by omega), h.cb 2 (by omega), h.cb 3 (by omega), h.cb 4 (by omega), h.cb 5 (by omega)⟩

set_option maxRecDepth 100000 in
set_option maxHeartbeats 4000000 in
theorem someX_P (b o : Nat) (G : Gph) (K : Nat → ByteArray) (f : ByteArray) (B S T : Nat → Bool) (w : World) (HG : Hid (Wy w b o G K f B)) :
    Calls Try.prog 95 #[.pointer (some ⟨b, o, none⟩), .int .u8 88, .agg (six S), .agg (six T)] w fun e w' => e = .returned (.agg (six (ahd G.e fun j => S j && B j))) ∧ Below w.heap.size w w' := by
  have hgl := HG.out.lt
  have HA0 : Hid (Arr (((w.alloc (.cells (six S) 59)).alloc (.cells (six T) 59)).alloc (.cells (six fun _ => false) 59)) w.heap.size 6 S) := ((arr_new w S 59).alloc _).alloc _
  have HT0 : Hid (Arr (((w.alloc (.cells (six S) 59)).alloc (.cells (six T) 59)).alloc (.cells (six fun _ => false) 59)) (w.heap.size + 1) 6 T) := (arr_at _ _ 59 _ (by simp)).alloc _
  have HR0 : Hid (Arr (((w.alloc (.cells (six S) 59)).alloc (.cells (six T) 59)).alloc (.cells (six fun _ => false) 59)) (w.heap.size + 1 + 1) 6 (fun _ => false)) := arr_at _ _ 59 _ (by simp)
  have hb0 := below3 w (.cells (six S) 59) (.cells (six T) 59) (.cells (six fun _ => false) 59)
  have HAH := fun C W (h : Hid (Wy W b o G K f B)) => aheadP_is b o G K f B C W h
  go_enter Try.func95, Try.ntmps95
  go_wp2_with fail
  generalize hW : ((w.alloc (Obj.cells (six S) 59)).alloc (Obj.cells (six T) 59)).alloc (Obj.cells #[Value.bool false, Value.bool false, Value.bool false, Value.bool false, Value.bool false, Value.bool false] 59) = w3
  have HA3 : Hid (Arr w3 w.heap.size 6 S) := by show Arr _ _ _ _; rw [← hW]; exact HA0.out
  have HT3 : Hid (Arr w3 (w.heap.size + 1) 6 T) := by show Arr _ _ _ _; rw [← hW]; exact HT0.out
  have HR3 : Hid (Arr w3 (w.heap.size + 1 + 1) 6 (fun _ => false)) := by show Arr _ _ _ _; rw [← hW]; exact HR0.out
  have hbel : Below w.heap.size w w3 := by rw [← hW]; exact hb0
  clear hW HA0 HT0 HR0 hb0
  have HG3 : Hid (Wy w3 b o G K f B) := HG.out.below hbel hgl
  go_region_held3 (fun w' => (w'.cell? ⟨w.heap.size, 0, none⟩ = some (.bool (S 0)) ∧ w'.cell? ⟨w.heap.size, 1, none⟩ = some (.bool (S 1)) ∧ w'.cell? ⟨w.heap.size, 2, none⟩ = some (.bool (S 2)) ∧ w'.cell? ⟨w.heap.size, 3, none⟩ = some (.bool (S 3)) ∧ w'.cell? ⟨w.heap.size, 4, none⟩ = some (.bool (S 4)) ∧ w'.cell? ⟨w.heap.size, 5, none⟩ = some (.bool (S 5))) ∧ (w'.cell? ⟨b, o + 46, none⟩ = some (.bool (B 0)) ∧ w'.cell? ⟨b, o + 47, none⟩ = some (.bool (B 1)) ∧ w'.cell? ⟨b, o + 48, none⟩ = some (.bool (B 2)) ∧ w'.cell? ⟨b, o + 49, none⟩ = some (.bool (B 3)) ∧ w'.cell? ⟨b, o + 50, none⟩ = some (.bool (B 4)) ∧ w'.cell? ⟨b, o + 51, none⟩ = some (.bool (B 5)))) (first
      | exact ⟨cells1 HA3.out.drew, HG3.out.drew.begin⟩
      | exact ⟨cells1 HA4.out, HG4.out.begin⟩
      | exact ⟨cells1 HA5.out, HG5.out.begin⟩
      | exact ⟨cells1 HA6.out, HG6.out.begin⟩) (first
    | (go_at_call 92; refine (bothP_is S B _).mono ?_; rintro e w4 ⟨rfl, hb4⟩
       have HA4 : Hid (Arr w4 w.heap.size 6 S) := HA3.out.drew.below hb4 HA3.out.drew.lt
       have HG4 : Hid (Wy w4 b o G K f B) := HG3.out.drew.below hb4 HG3.out.drew.lt
       have HR4 : Hid (Arr w4 (w.heap.size + 1 + 1) 6 (fun _ => false)) := HR3.out.drew.below hb4 HR3.out.drew.lt
       have hbel4 : Below w.heap.size w w4 := Below.to hbel.drew hb4)
    | (go_at_call 112; refine (HAH _ _ HG4).mono ?_; rintro e w5 ⟨rfl, hb5⟩
       have HA5 : Hid (Arr w5 w.heap.size 6 S) := HA4.out.below hb5 HA4.out.lt
       have HG5 : Hid (Wy w5 b o G K f B) := HG4.out.below hb5 HG4.out.lt
       have HR5 : Hid (Arr w5 (w.heap.size + 1 + 1) 6 (fun _ => false)) := HR4.out.below hb5 HR4.out.lt
       have hbel5 : Below w.heap.size w w5 := Below.to hbel4 hb5
       obtain ⟨w6, hrun6, hb6, hz6, hk6, HR6'⟩ := stores6 HR5.out (ahd G.e fun j => S j && B j)
       have HR6 : Hid (Arr w6 (w.heap.size + 1 + 1) 6 (ahd G.e fun j => S j && B j)) := HR6'
       have HA6 : Hid (Arr w6 w.heap.size 6 S) := HA5.out.otherK hz6 hk6 (by omega)
       have HG6 : Hid (Wy w6 b o G K f B) := HG5.out.below hb6 (by omega)
       clear HR6'))
  all_goals
    go_wp2_with fail
    exact bodyPost_ret (resultS Try.results95 _ _ (w.heap.size + 1 + 1) _ rfl HR6.out) rfl ⟨rfl, hbel5.trans (hb6.mono (by omega))⟩

set_option maxRecDepth 100000 in
set_option maxHeartbeats 4000000 in
theorem someU_P (b o : Nat) (G : Gph) (K : Nat → ByteArray) (f : ByteArray) (B S T : Nat → Bool) (w : World) (HG : Hid (Wy w b o G K f B)) :
    Calls Try.prog 95 #[.pointer (some ⟨b, o, none⟩), .int .u8 85, .agg (six S), .agg (six T)] w fun e w' => e = .returned (.agg (six (rea G.e S (fun j => T j && B j) 5))) ∧ Below w.heap.size w w' := by
  have hgl := HG.out.lt
  have HA0 : Hid (Arr (((w.alloc (.cells (six S) 59)).alloc (.cells (six T) 59)).alloc (.cells (six fun _ => false) 59)) w.heap.size 6 S) := ((arr_new w S 59).alloc _).alloc _
  have HT0 : Hid (Arr (((w.alloc (.cells (six S) 59)).alloc (.cells (six T) 59)).alloc (.cells (six fun _ => false) 59)) (w.heap.size + 1) 6 T) := (arr_at _ _ 59 _ (by simp)).alloc _
  have HR0 : Hid (Arr (((w.alloc (.cells (six S) 59)).alloc (.cells (six T) 59)).alloc (.cells (six fun _ => false) 59)) (w.heap.size + 1 + 1) 6 (fun _ => false)) := arr_at _ _ 59 _ (by simp)
  have hb0 := below3 w (.cells (six S) 59) (.cells (six T) 59) (.cells (six fun _ => false) 59)
  have HAH := fun C W (h : Hid (Wy W b o G K f B)) => reachingP_is b o G K f B S C W h
  go_enter Try.func95, Try.ntmps95
  go_wp2_with fail
  generalize hW : ((w.alloc (Obj.cells (six S) 59)).alloc (Obj.cells (six T) 59)).alloc (Obj.cells #[Value.bool false, Value.bool false, Value.bool false, Value.bool false, Value.bool false, Value.bool false] 59) = w3
  have HA3 : Hid (Arr w3 w.heap.size 6 S) := by show Arr _ _ _ _; rw [← hW]; exact HA0.out
  have HT3 : Hid (Arr w3 (w.heap.size + 1) 6 T) := by show Arr _ _ _ _; rw [← hW]; exact HT0.out
  have HR3 : Hid (Arr w3 (w.heap.size + 1 + 1) 6 (fun _ => false)) := by show Arr _ _ _ _; rw [← hW]; exact HR0.out
  have hbel : Below w.heap.size w w3 := by rw [← hW]; exact hb0
  clear hW HA0 HT0 HR0 hb0
  have HG3 : Hid (Wy w3 b o G K f B) := HG.out.below hbel hgl
  go_region_held3 (fun w' => (w'.cell? ⟨w.heap.size, 0, none⟩ = some (.bool (S 0)) ∧ w'.cell? ⟨w.heap.size, 1, none⟩ = some (.bool (S 1)) ∧ w'.cell? ⟨w.heap.size, 2, none⟩ = some (.bool (S 2)) ∧ w'.cell? ⟨w.heap.size, 3, none⟩ = some (.bool (S 3)) ∧ w'.cell? ⟨w.heap.size, 4, none⟩ = some (.bool (S 4)) ∧ w'.cell? ⟨w.heap.size, 5, none⟩ = some (.bool (S 5))) ∧ (w'.cell? ⟨(w.heap.size + 1), 0, none⟩ = some (.bool (T 0)) ∧ w'.cell? ⟨(w.heap.size + 1), 1, none⟩ = some (.bool (T 1)) ∧ w'.cell? ⟨(w.heap.size + 1), 2, none⟩ = some (.bool (T 2)) ∧ w'.cell? ⟨(w.heap.size + 1), 3, none⟩ = some (.bool (T 3)) ∧ w'.cell? ⟨(w.heap.size + 1), 4, none⟩ = some (.bool (T 4)) ∧ w'.cell? ⟨(w.heap.size + 1), 5, none⟩ = some (.bool (T 5))) ∧ (w'.cell? ⟨b, o + 46, none⟩ = some (.bool (B 0)) ∧ w'.cell? ⟨b, o + 47, none⟩ = some (.bool (B 1)) ∧ w'.cell? ⟨b, o + 48, none⟩ = some (.bool (B 2)) ∧ w'.cell? ⟨b, o + 49, none⟩ = some (.bool (B 3)) ∧ w'.cell? ⟨b, o + 50, none⟩ = some (.bool (B 4)) ∧ w'.cell? ⟨b, o + 51, none⟩ = some (.bool (B 5)))) (first
      | exact ⟨cells1 HA3.out.drew, cells1 HT3.out.drew, HG3.out.drew.begin⟩
      | exact ⟨cells1 HA4.out, cells1 HT4.out, HG4.out.begin⟩
      | exact ⟨cells1 HA5.out, cells1 HT5.out, HG5.out.begin⟩
      | exact ⟨cells1 HA6.out, cells1 HT6.out, HG6.out.begin⟩) (first
    | (go_at_call 92; refine (bothP_is T B _).mono ?_; rintro e w4 ⟨rfl, hb4⟩
       have HA4 : Hid (Arr w4 w.heap.size 6 S) := HA3.out.drew.below hb4 HA3.out.drew.lt
       have HT4 : Hid (Arr w4 (w.heap.size + 1) 6 T) := HT3.out.drew.below hb4 HT3.out.drew.lt
       have HG4 : Hid (Wy w4 b o G K f B) := HG3.out.drew.below hb4 HG3.out.drew.lt
       have HR4 : Hid (Arr w4 (w.heap.size + 1 + 1) 6 (fun _ => false)) := HR3.out.drew.below hb4 HR3.out.drew.lt
       have hbel4 : Below w.heap.size w w4 := Below.to hbel.drew hb4)
    | (go_at_call 91; refine (HAH _ _ HG4).mono ?_; rintro e w5 ⟨rfl, hb5⟩
       have HA5 : Hid (Arr w5 w.heap.size 6 S) := HA4.out.below hb5 HA4.out.lt
       have HT5 : Hid (Arr w5 (w.heap.size + 1) 6 T) := HT4.out.below hb5 HT4.out.lt
       have HG5 : Hid (Wy w5 b o G K f B) := HG4.out.below hb5 HG4.out.lt
       have HR5 : Hid (Arr w5 (w.heap.size + 1 + 1) 6 (fun _ => false)) := HR4.out.below hb5 HR4.out.lt
       have hbel5 : Below w.heap.size w w5 := Below.to hbel4 hb5
       obtain ⟨w6, hrun6, hb6, hz6, hk6, HR6'⟩ := stores6 HR5.out (rea G.e S (fun j => T j && B j) 5)
       have HR6 : Hid (Arr w6 (w.heap.size + 1 + 1) 6 (rea G.e S (fun j => T j && B j) 5)) := HR6'
       have HA6 : Hid (Arr w6 w.heap.size 6 S) := HA5.out.otherK hz6 hk6 (by omega)
       have HT6 : Hid (Arr w6 (w.heap.size + 1) 6 T) := HT5.out.otherK hz6 hk6 (by omega)
       have HG6 : Hid (Wy w6 b o G K f B) := HG5.out.below hb6 (by omega)
       clear HR6'))
  all_goals
    go_wp2_with fail
    exact bodyPost_ret (resultS Try.results95 _ _ (w.heap.size + 1 + 1) _ rfl HR6.out) rfl ⟨rfl, hbel5.trans (hb6.mono (by omega))⟩

end Go.Proofs.Ytkjnhhbibaimfaa
