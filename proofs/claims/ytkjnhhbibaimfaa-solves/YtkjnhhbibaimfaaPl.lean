import Derived.Test.YtkjnhhbibaimfaaPk
namespace Go.Proofs.Ytkjnhhbibaimfaa
open Go.RowKit Fw
set_option linter.unusedVariables false

set_option maxRecDepth 100000 in
set_option maxHeartbeats 4000000 in
theorem hold_88A (b o wy li ri k : Nat) (G : Gph) (K : Nat → ByteArray) (f : ByteArray) (B S T N : Nat → Bool) (hwy : ((wy : Int) == 65) = true) (HSO : ∀ W, Hid (Wy W b o G K f B) → Calls Try.prog 94 #[.pointer (some ⟨b, o, none⟩), .int .u8 88, .agg (six S), .agg (six T)] W fun e w' => e = .returned (.agg (six N)) ∧ Below W.heap.size W w') (w : World) (HG : Hid (Wy w b o G K f B)) :
    Calls Try.prog 66 #[.pointer (some ⟨b, o, none⟩), .agg #[.int .u8 88, .int .u8 (wy : Int), .int .i64 (li : Int), .int .i64 (ri : Int), .int .i64 (k : Int)], .agg (six S), .agg (six T)] w fun e w' => e = .returned (.agg (six N)) ∧ Below w.heap.size w w' := by
  have hgl := HG.out.lt
  obtain ⟨C, hC⟩ : ∃ C : Array Value, C = #[.int .u8 88, .int .u8 (wy : Int), .int .i64 (li : Int), .int .i64 (ri : Int), .int .i64 (k : Int)] := ⟨_, rfl⟩
  have HA0 : Hid (Arr ((((w.alloc (.cells C 97)).alloc (.cells (six S) 59)).alloc (.cells (six T) 59)).alloc (.cells (six fun _ => false) 59)) (w.heap.size + 1) 6 S) := ((arr_at _ _ 59 _ (by simp)).alloc _).alloc _
  have HT0 : Hid (Arr ((((w.alloc (.cells C 97)).alloc (.cells (six S) 59)).alloc (.cells (six T) 59)).alloc (.cells (six fun _ => false) 59)) (w.heap.size + 1 + 1) 6 T) := (arr_at _ _ 59 _ (by simp)).alloc _
  have HR0 : Hid (Arr ((((w.alloc (.cells C 97)).alloc (.cells (six S) 59)).alloc (.cells (six T) 59)).alloc (.cells (six fun _ => false) 59)) (w.heap.size + 1 + 1 + 1) 6 (fun _ => false)) := arr_at _ _ 59 _ (by simp)
  have hb0 := below4 w (.cells C 97) (.cells (six S) 59) (.cells (six T) 59) (.cells (six fun _ => false) 59)
  have HG0 : Hid (Wy _ b o G K f B) := HG.out.below hb0 hgl
  rw [hC] at HA0 HT0 HR0 hb0 HG0
  clear hC
  go_enter Try.func66, Try.ntmps66
  go_wp2_with (first
    | (refine loadS (by rfl) _ (by rfl) (w.heap.size + 1) (by rfl) S HA0.out ?_)
    | (refine loadS (by rfl) _ (by rfl) (w.heap.size + 1 + 1) (by rfl) T HT0.out ?_)
    | (go_at_call 94; refine (HSO _ HG0).mono ?_; rintro e w4 ⟨rfl, hb4⟩)
    | (refine storeS (by rfl) _ _ (by rfl) (w.heap.size + 1 + 1 + 1) _ _ (by rfl) (by rfl) (HR0.out.below hb4 HR0.out.lt) ?_; intro w5 hb5 hz5 hk5 HR5))
  exact bodyPost_ret (resultS Try.results66 _ _ (w.heap.size + 1 + 1 + 1) _ rfl HR5) rfl ⟨rfl, (Below.to hb0 hb4).trans (hb5.mono (by omega))⟩

set_option maxRecDepth 100000 in
set_option maxHeartbeats 4000000 in
theorem hold_88E (b o wy li ri k : Nat) (G : Gph) (K : Nat → ByteArray) (f : ByteArray) (B S T N : Nat → Bool) (hwy : ((wy : Int) == 65) = false) (HSO : ∀ W, Hid (Wy W b o G K f B) → Calls Try.prog 95 #[.pointer (some ⟨b, o, none⟩), .int .u8 88, .agg (six S), .agg (six T)] W fun e w' => e = .returned (.agg (six N)) ∧ Below W.heap.size W w') (w : World) (HG : Hid (Wy w b o G K f B)) :
    Calls Try.prog 66 #[.pointer (some ⟨b, o, none⟩), .agg #[.int .u8 88, .int .u8 (wy : Int), .int .i64 (li : Int), .int .i64 (ri : Int), .int .i64 (k : Int)], .agg (six S), .agg (six T)] w fun e w' => e = .returned (.agg (six N)) ∧ Below w.heap.size w w' := by
  have hgl := HG.out.lt
  obtain ⟨C, hC⟩ : ∃ C : Array Value, C = #[.int .u8 88, .int .u8 (wy : Int), .int .i64 (li : Int), .int .i64 (ri : Int), .int .i64 (k : Int)] := ⟨_, rfl⟩
  have HA0 : Hid (Arr ((((w.alloc (.cells C 97)).alloc (.cells (six S) 59)).alloc (.cells (six T) 59)).alloc (.cells (six fun _ => false) 59)) (w.heap.size + 1) 6 S) := ((arr_at _ _ 59 _ (by simp)).alloc _).alloc _
  have HT0 : Hid (Arr ((((w.alloc (.cells C 97)).alloc (.cells (six S) 59)).alloc (.cells (six T) 59)).alloc (.cells (six fun _ => false) 59)) (w.heap.size + 1 + 1) 6 T) := (arr_at _ _ 59 _ (by simp)).alloc _
  have HR0 : Hid (Arr ((((w.alloc (.cells C 97)).alloc (.cells (six S) 59)).alloc (.cells (six T) 59)).alloc (.cells (six fun _ => false) 59)) (w.heap.size + 1 + 1 + 1) 6 (fun _ => false)) := arr_at _ _ 59 _ (by simp)
  have hb0 := below4 w (.cells C 97) (.cells (six S) 59) (.cells (six T) 59) (.cells (six fun _ => false) 59)
  have HG0 : Hid (Wy _ b o G K f B) := HG.out.below hb0 hgl
  rw [hC] at HA0 HT0 HR0 hb0 HG0
  clear hC
  go_enter Try.func66, Try.ntmps66
  go_wp2_with (first
    | (refine loadS (by rfl) _ (by rfl) (w.heap.size + 1) (by rfl) S HA0.out ?_)
    | (refine loadS (by rfl) _ (by rfl) (w.heap.size + 1 + 1) (by rfl) T HT0.out ?_)
    | (go_at_call 95; refine (HSO _ HG0).mono ?_; rintro e w4 ⟨rfl, hb4⟩)
    | (refine storeS (by rfl) _ _ (by rfl) (w.heap.size + 1 + 1 + 1) _ _ (by rfl) (by rfl) (HR0.out.below hb4 HR0.out.lt) ?_; intro w5 hb5 hz5 hk5 HR5))
  exact bodyPost_ret (resultS Try.results66 _ _ (w.heap.size + 1 + 1 + 1) _ rfl HR5) rfl ⟨rfl, (Below.to hb0 hb4).trans (hb5.mono (by omega))⟩

set_option maxRecDepth 100000 in
set_option maxHeartbeats 4000000 in
theorem hold_85A (b o wy li ri k : Nat) (G : Gph) (K : Nat → ByteArray) (f : ByteArray) (B S T N : Nat → Bool) (hwy : ((wy : Int) == 65) = true) (HSO : ∀ W, Hid (Wy W b o G K f B) → Calls Try.prog 94 #[.pointer (some ⟨b, o, none⟩), .int .u8 85, .agg (six S), .agg (six T)] W fun e w' => e = .returned (.agg (six N)) ∧ Below W.heap.size W w') (w : World) (HG : Hid (Wy w b o G K f B)) :
    Calls Try.prog 66 #[.pointer (some ⟨b, o, none⟩), .agg #[.int .u8 85, .int .u8 (wy : Int), .int .i64 (li : Int), .int .i64 (ri : Int), .int .i64 (k : Int)], .agg (six S), .agg (six T)] w fun e w' => e = .returned (.agg (six N)) ∧ Below w.heap.size w w' := by
  have hgl := HG.out.lt
  obtain ⟨C, hC⟩ : ∃ C : Array Value, C = #[.int .u8 85, .int .u8 (wy : Int), .int .i64 (li : Int), .int .i64 (ri : Int), .int .i64 (k : Int)] := ⟨_, rfl⟩
  have HA0 : Hid (Arr ((((w.alloc (.cells C 97)).alloc (.cells (six S) 59)).alloc (.cells (six T) 59)).alloc (.cells (six fun _ => false) 59)) (w.heap.size + 1) 6 S) := ((arr_at _ _ 59 _ (by simp)).alloc _).alloc _
  have HT0 : Hid (Arr ((((w.alloc (.cells C 97)).alloc (.cells (six S) 59)).alloc (.cells (six T) 59)).alloc (.cells (six fun _ => false) 59)) (w.heap.size + 1 + 1) 6 T) := (arr_at _ _ 59 _ (by simp)).alloc _
  have HR0 : Hid (Arr ((((w.alloc (.cells C 97)).alloc (.cells (six S) 59)).alloc (.cells (six T) 59)).alloc (.cells (six fun _ => false) 59)) (w.heap.size + 1 + 1 + 1) 6 (fun _ => false)) := arr_at _ _ 59 _ (by simp)
  have hb0 := below4 w (.cells C 97) (.cells (six S) 59) (.cells (six T) 59) (.cells (six fun _ => false) 59)
  have HG0 : Hid (Wy _ b o G K f B) := HG.out.below hb0 hgl
  rw [hC] at HA0 HT0 HR0 hb0 HG0
  clear hC
  go_enter Try.func66, Try.ntmps66
  go_wp2_with (first
    | (refine loadS (by rfl) _ (by rfl) (w.heap.size + 1) (by rfl) S HA0.out ?_)
    | (refine loadS (by rfl) _ (by rfl) (w.heap.size + 1 + 1) (by rfl) T HT0.out ?_)
    | (go_at_call 94; refine (HSO _ HG0).mono ?_; rintro e w4 ⟨rfl, hb4⟩)
    | (refine storeS (by rfl) _ _ (by rfl) (w.heap.size + 1 + 1 + 1) _ _ (by rfl) (by rfl) (HR0.out.below hb4 HR0.out.lt) ?_; intro w5 hb5 hz5 hk5 HR5))
  exact bodyPost_ret (resultS Try.results66 _ _ (w.heap.size + 1 + 1 + 1) _ rfl HR5) rfl ⟨rfl, (Below.to hb0 hb4).trans (hb5.mono (by omega))⟩

set_option maxRecDepth 100000 in
set_option maxHeartbeats 4000000 in
theorem hold_85E (b o wy li ri k : Nat) (G : Gph) (K : Nat → ByteArray) (f : ByteArray) (B S T N : Nat → Bool) (hwy : ((wy : Int) == 65) = false) (HSO : ∀ W, Hid (Wy W b o G K f B) → Calls Try.prog 95 #[.pointer (some ⟨b, o, none⟩), .int .u8 85, .agg (six S), .agg (six T)] W fun e w' => e = .returned (.agg (six N)) ∧ Below W.heap.size W w') (w : World) (HG : Hid (Wy w b o G K f B)) :
    Calls Try.prog 66 #[.pointer (some ⟨b, o, none⟩), .agg #[.int .u8 85, .int .u8 (wy : Int), .int .i64 (li : Int), .int .i64 (ri : Int), .int .i64 (k : Int)], .agg (six S), .agg (six T)] w fun e w' => e = .returned (.agg (six N)) ∧ Below w.heap.size w w' := by
  have hgl := HG.out.lt
  obtain ⟨C, hC⟩ : ∃ C : Array Value, C = #[.int .u8 85, .int .u8 (wy : Int), .int .i64 (li : Int), .int .i64 (ri : Int), .int .i64 (k : Int)] := ⟨_, rfl⟩
  have HA0 : Hid (Arr ((((w.alloc (.cells C 97)).alloc (.cells (six S) 59)).alloc (.cells (six T) 59)).alloc (.cells (six fun _ => false) 59)) (w.heap.size + 1) 6 S) := ((arr_at _ _ 59 _ (by simp)).alloc _).alloc _
  have HT0 : Hid (Arr ((((w.alloc (.cells C 97)).alloc (.cells (six S) 59)).alloc (.cells (six T) 59)).alloc (.cells (six fun _ => false) 59)) (w.heap.size + 1 + 1) 6 T) := (arr_at _ _ 59 _ (by simp)).alloc _
  have HR0 : Hid (Arr ((((w.alloc (.cells C 97)).alloc (.cells (six S) 59)).alloc (.cells (six T) 59)).alloc (.cells (six fun _ => false) 59)) (w.heap.size + 1 + 1 + 1) 6 (fun _ => false)) := arr_at _ _ 59 _ (by simp)
  have hb0 := below4 w (.cells C 97) (.cells (six S) 59) (.cells (six T) 59) (.cells (six fun _ => false) 59)
  have HG0 : Hid (Wy _ b o G K f B) := HG.out.below hb0 hgl
  rw [hC] at HA0 HT0 HR0 hb0 HG0
  clear hC
  go_enter Try.func66, Try.ntmps66
  go_wp2_with (first
    | (refine loadS (by rfl) _ (by rfl) (w.heap.size + 1) (by rfl) S HA0.out ?_)
    | (refine loadS (by rfl) _ (by rfl) (w.heap.size + 1 + 1) (by rfl) T HT0.out ?_)
    | (go_at_call 95; refine (HSO _ HG0).mono ?_; rintro e w4 ⟨rfl, hb4⟩)
    | (refine storeS (by rfl) _ _ (by rfl) (w.heap.size + 1 + 1 + 1) _ _ (by rfl) (by rfl) (HR0.out.below hb4 HR0.out.lt) ?_; intro w5 hb5 hz5 hk5 HR5))
  exact bodyPost_ret (resultS Try.results66 _ _ (w.heap.size + 1 + 1 + 1) _ rfl HR5) rfl ⟨rfl, (Below.to hb0 hb4).trans (hb5.mono (by omega))⟩

set_option maxRecDepth 100000 in
set_option maxHeartbeats 4000000 in
theorem hold_82A (b o wy li ri k : Nat) (G : Gph) (K : Nat → ByteArray) (f : ByteArray) (B S T N : Nat → Bool) (hwy : ((wy : Int) == 65) = true) (HSO : ∀ W, Hid (Wy W b o G K f B) → Calls Try.prog 94 #[.pointer (some ⟨b, o, none⟩), .int .u8 82, .agg (six S), .agg (six T)] W fun e w' => e = .returned (.agg (six N)) ∧ Below W.heap.size W w') (w : World) (HG : Hid (Wy w b o G K f B)) :
    Calls Try.prog 66 #[.pointer (some ⟨b, o, none⟩), .agg #[.int .u8 82, .int .u8 (wy : Int), .int .i64 (li : Int), .int .i64 (ri : Int), .int .i64 (k : Int)], .agg (six S), .agg (six T)] w fun e w' => e = .returned (.agg (six N)) ∧ Below w.heap.size w w' := by
  have hgl := HG.out.lt
  obtain ⟨C, hC⟩ : ∃ C : Array Value, C = #[.int .u8 82, .int .u8 (wy : Int), .int .i64 (li : Int), .int .i64 (ri : Int), .int .i64 (k : Int)] := ⟨_, rfl⟩
  have HA0 : Hid (Arr ((((w.alloc (.cells C 97)).alloc (.cells (six S) 59)).alloc (.cells (six T) 59)).alloc (.cells (six fun _ => false) 59)) (w.heap.size + 1) 6 S) := ((arr_at _ _ 59 _ (by simp)).alloc _).alloc _
  have HT0 : Hid (Arr ((((w.alloc (.cells C 97)).alloc (.cells (six S) 59)).alloc (.cells (six T) 59)).alloc (.cells (six fun _ => false) 59)) (w.heap.size + 1 + 1) 6 T) := (arr_at _ _ 59 _ (by simp)).alloc _
  have HR0 : Hid (Arr ((((w.alloc (.cells C 97)).alloc (.cells (six S) 59)).alloc (.cells (six T) 59)).alloc (.cells (six fun _ => false) 59)) (w.heap.size + 1 + 1 + 1) 6 (fun _ => false)) := arr_at _ _ 59 _ (by simp)
  have hb0 := below4 w (.cells C 97) (.cells (six S) 59) (.cells (six T) 59) (.cells (six fun _ => false) 59)
  have HG0 : Hid (Wy _ b o G K f B) := HG.out.below hb0 hgl
  rw [hC] at HA0 HT0 HR0 hb0 HG0
  clear hC
  go_enter Try.func66, Try.ntmps66
  go_wp2_with (first
    | (refine loadS (by rfl) _ (by rfl) (w.heap.size + 1) (by rfl) S HA0.out ?_)
    | (refine loadS (by rfl) _ (by rfl) (w.heap.size + 1 + 1) (by rfl) T HT0.out ?_)
    | (go_at_call 94; refine (HSO _ HG0).mono ?_; rintro e w4 ⟨rfl, hb4⟩)
    | (refine storeS (by rfl) _ _ (by rfl) (w.heap.size + 1 + 1 + 1) _ _ (by rfl) (by rfl) (HR0.out.below hb4 HR0.out.lt) ?_; intro w5 hb5 hz5 hk5 HR5))
  exact bodyPost_ret (resultS Try.results66 _ _ (w.heap.size + 1 + 1 + 1) _ rfl HR5) rfl ⟨rfl, (Below.to hb0 hb4).trans (hb5.mono (by omega))⟩

set_option maxRecDepth 100000 in
set_option maxHeartbeats 4000000 in
theorem hold_82E (b o wy li ri k : Nat) (G : Gph) (K : Nat → ByteArray) (f : ByteArray) (B S T N : Nat → Bool) (hwy : ((wy : Int) == 65) = false) (HSO : ∀ W, Hid (Wy W b o G K f B) → Calls Try.prog 95 #[.pointer (some ⟨b, o, none⟩), .int .u8 82, .agg (six S), .agg (six T)] W fun e w' => e = .returned (.agg (six N)) ∧ Below W.heap.size W w') (w : World) (HG : Hid (Wy w b o G K f B)) :
    Calls Try.prog 66 #[.pointer (some ⟨b, o, none⟩), .agg #[.int .u8 82, .int .u8 (wy : Int), .int .i64 (li : Int), .int .i64 (ri : Int), .int .i64 (k : Int)], .agg (six S), .agg (six T)] w fun e w' => e = .returned (.agg (six N)) ∧ Below w.heap.size w w' := by
  have hgl := HG.out.lt
  obtain ⟨C, hC⟩ : ∃ C : Array Value, C = #[.int .u8 82, .int .u8 (wy : Int), .int .i64 (li : Int), .int .i64 (ri : Int), .int .i64 (k : Int)] := ⟨_, rfl⟩
  have HA0 : Hid (Arr ((((w.alloc (.cells C 97)).alloc (.cells (six S) 59)).alloc (.cells (six T) 59)).alloc (.cells (six fun _ => false) 59)) (w.heap.size + 1) 6 S) := ((arr_at _ _ 59 _ (by simp)).alloc _).alloc _
  have HT0 : Hid (Arr ((((w.alloc (.cells C 97)).alloc (.cells (six S) 59)).alloc (.cells (six T) 59)).alloc (.cells (six fun _ => false) 59)) (w.heap.size + 1 + 1) 6 T) := (arr_at _ _ 59 _ (by simp)).alloc _
  have HR0 : Hid (Arr ((((w.alloc (.cells C 97)).alloc (.cells (six S) 59)).alloc (.cells (six T) 59)).alloc (.cells (six fun _ => false) 59)) (w.heap.size + 1 + 1 + 1) 6 (fun _ => false)) := arr_at _ _ 59 _ (by simp)
  have hb0 := below4 w (.cells C 97) (.cells (six S) 59) (.cells (six T) 59) (.cells (six fun _ => false) 59)
  have HG0 : Hid (Wy _ b o G K f B) := HG.out.below hb0 hgl
  rw [hC] at HA0 HT0 HR0 hb0 HG0
  clear hC
  go_enter Try.func66, Try.ntmps66
  go_wp2_with (first
    | (refine loadS (by rfl) _ (by rfl) (w.heap.size + 1) (by rfl) S HA0.out ?_)
    | (refine loadS (by rfl) _ (by rfl) (w.heap.size + 1 + 1) (by rfl) T HT0.out ?_)
    | (go_at_call 95; refine (HSO _ HG0).mono ?_; rintro e w4 ⟨rfl, hb4⟩)
    | (refine storeS (by rfl) _ _ (by rfl) (w.heap.size + 1 + 1 + 1) _ _ (by rfl) (by rfl) (HR0.out.below hb4 HR0.out.lt) ?_; intro w5 hb5 hz5 hk5 HR5))
  exact bodyPost_ret (resultS Try.results66 _ _ (w.heap.size + 1 + 1 + 1) _ rfl HR5) rfl ⟨rfl, (Below.to hb0 hb4).trans (hb5.mono (by omega))⟩


theorem hold_P (b o sg wy li ri k : Nat) (G : Gph) (K : Nat → ByteArray) (f : ByteArray) (S T : Nat → Bool) (hf : f.size ≤ 1000) (w : World) (HG : Hid (Wy w b o G K f (begP G (fsOf f)))) :
    Calls Try.prog 66 #[.pointer (some ⟨b, o, none⟩), .agg #[.int .u8 (sg : Int), .int .u8 (wy : Int), .int .i64 (li : Int), .int .i64 (ri : Int), .int .i64 (k : Int)], .agg (six S), .agg (six T)] w fun e w' => e = .returned (.agg (six (hold1 G (fsOf f) sg wy S T))) ∧ Below w.heap.size w w' := by
  by_cases h1 : sg = 33
  · subst h1; exact hold_33 b o wy li ri k G K f _ S T w HG
  by_cases h2 : sg = 38
  · subst h2; exact hold_38 b o wy li ri k G K f _ S T w HG
  by_cases h3 : sg = 43
  · subst h3; exact hold_43 b o wy li ri k G K f _ S T w HG
  by_cases h4 : sg = 84
  · subst h4; exact hold_84 b o wy li ri k G K f _ S T w HG
  by_cases h5 : sg = 88 ∨ sg = 85 ∨ sg = 82
  · by_cases hw : wy = 65
    · have hw' : ((wy : Int) == 65) = true := by rw [beq_iff_eq]; omega
      have e1 : hold1 G (fsOf f) sg wy S T = everyP G (fsOf f) sg S T := by
        funext i
        unfold hold1
        rw [if_neg h1, if_neg h2, if_neg h3, if_pos h5, if_pos hw]
      rw [e1]
      have HSO := fun W (h : Hid (Wy W b o G K f (begP G (fsOf f)))) => every_P b o sg G K f S T h5 hf W h
      rcases h5 with rfl | rfl | rfl
      · exact hold_88A b o wy li ri k G K f _ S T _ hw' HSO w HG
      · exact hold_85A b o wy li ri k G K f _ S T _ hw' HSO w HG
      · exact hold_82A b o wy li ri k G K f _ S T _ hw' HSO w HG
    · have hw' : ((wy : Int) == 65) = false := by rw [beq_eq_false_iff_ne]; omega
      have e1 : hold1 G (fsOf f) sg wy S T = someP G (fsOf f) sg S T := by
        funext i
        unfold hold1
        rw [if_neg h1, if_neg h2, if_neg h3, if_pos h5, if_neg hw]
      rw [e1]
      have HSO := fun W (h : Hid (Wy W b o G K f (begP G (fsOf f)))) => some_P b o sg G K f S T h5 hf W h
      rcases h5 with rfl | rfl | rfl
      · exact hold_88E b o wy li ri k G K f _ S T _ hw' HSO w HG
      · exact hold_85E b o wy li ri k G K f _ S T _ hw' HSO w HG
      · exact hold_82E b o wy li ri k G K f _ S T _ hw' HSO w HG
  · have e1 : hold1 G (fsOf f) sg wy S T = fun j => G.m j sg := by
      funext i
      unfold hold1
      rw [if_neg h1, if_neg h2, if_neg h3, if_neg h5, if_neg h4]
    rw [e1]
    exact hold_let b o sg wy li ri k G K f _ S T (by rw [beq_eq_false_iff_ne]; omega) (by rw [beq_eq_false_iff_ne]; omega) (by rw [beq_eq_false_iff_ne]; omega) (by rw [beq_eq_false_iff_ne]; omega) (by rw [beq_eq_false_iff_ne]; omega) (by rw [beq_eq_false_iff_ne]; omega) (by rw [beq_eq_false_iff_ne]; omega) w HG

end Go.Proofs.Ytkjnhhbibaimfaa
