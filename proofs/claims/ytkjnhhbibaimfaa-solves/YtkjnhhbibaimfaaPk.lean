import Derived.Test.YtkjnhhbibaimfaaPj
namespace Go.Proofs.Ytkjnhhbibaimfaa
open Go.RowKit Fw
set_option linter.unusedVariables false

/-- where a node holds, if its parts hold in S and T -/
def hold1 (G : Gph) (fs : List Nat) (sg wy : Nat) (S T : Nat → Bool) (i : Nat) : Bool :=
  if sg = 33 then !(S i)
  else if sg = 38 then S i && T i
  else if sg = 43 then S i || T i
  else if sg = 88 ∨ sg = 85 ∨ sg = 82 then (if wy = 65 then everyP G fs sg S T i else someP G fs sg S T i)
  else if sg = 84 then true
  else G.m i sg

theorem holdsP_node (G : Gph) (fs : List Nat) (sg wy : Nat) (u : Unit) (l r : Fm) : holdsP G fs (.node sg wy u l r) = hold1 G fs sg wy (holdsP G fs l) (holdsP G fs r) := by
  funext i
  rfl

set_option maxRecDepth 100000 in
set_option maxHeartbeats 4000000 in
theorem hold_84 (b o wy li ri k : Nat) (G : Gph) (K : Nat → ByteArray) (f : ByteArray) (B S T : Nat → Bool) (w : World) (HG : Hid (Wy w b o G K f B)) :
    Calls Try.prog 66 #[.pointer (some ⟨b, o, none⟩), .agg #[.int .u8 84, .int .u8 (wy : Int), .int .i64 (li : Int), .int .i64 (ri : Int), .int .i64 (k : Int)], .agg (six S), .agg (six T)] w fun e w' => e = .returned (.agg (six fun _ => true)) ∧ Below w.heap.size w w' := by
  have hgl := HG.out.lt
  obtain ⟨C, hC⟩ : ∃ C : Array Value, C = #[.int .u8 84, .int .u8 (wy : Int), .int .i64 (li : Int), .int .i64 (ri : Int), .int .i64 (k : Int)] := ⟨_, rfl⟩
  have HA0 : Hid (Arr ((((w.alloc (.cells C 97)).alloc (.cells (six S) 59)).alloc (.cells (six T) 59)).alloc (.cells (six fun _ => false) 59)) (w.heap.size + 1) 6 S) := ((arr_at _ _ 59 _ (by simp)).alloc _).alloc _
  have HT0 : Hid (Arr ((((w.alloc (.cells C 97)).alloc (.cells (six S) 59)).alloc (.cells (six T) 59)).alloc (.cells (six fun _ => false) 59)) (w.heap.size + 1 + 1) 6 T) := (arr_at _ _ 59 _ (by simp)).alloc _
  have HR0 : Hid (Arr ((((w.alloc (.cells C 97)).alloc (.cells (six S) 59)).alloc (.cells (six T) 59)).alloc (.cells (six fun _ => false) 59)) (w.heap.size + 1 + 1 + 1) 6 (fun _ => false)) := arr_at _ _ 59 _ (by simp)
  have hb0 := below4 w (.cells C 97) (.cells (six S) 59) (.cells (six T) 59) (.cells (six fun _ => false) 59)
  have HG0 : Hid (Wy _ b o G K f B) := HG.out.below hb0 hgl
  rw [hC] at HA0 HT0 HR0 hb0 HG0
  clear hC
  go_enter Try.func66, Try.ntmps66
  go_wp2_with (first
    | (refine loadS (by rfl) _ (by rfl) (w.heap.size + 1) (by rfl) S HA0.out ?_)
    | (refine loadS (by rfl) _ (by rfl) (w.heap.size + 1 + 1) (by rfl) T HT0.out ?_)
    | (go_at_call 65; refine (othersP_is (fun _ => false) _).mono ?_; rintro e w4 ⟨rfl, hb4⟩)
    | (refine storeS (by rfl) _ _ (by rfl) (w.heap.size + 1 + 1 + 1) _ _ (by rfl) (by rfl) (HR0.out.below hb4 HR0.out.lt) ?_; intro w5 hb5 hz5 hk5 HR5))
  exact bodyPost_ret (resultS Try.results66 _ _ (w.heap.size + 1 + 1 + 1) _ rfl HR5) rfl ⟨rfl, (Below.to hb0 hb4).trans (hb5.mono (by omega))⟩

set_option maxRecDepth 100000 in
set_option maxHeartbeats 4000000 in
theorem hold_33 (b o wy li ri k : Nat) (G : Gph) (K : Nat → ByteArray) (f : ByteArray) (B S T : Nat → Bool) (w : World) (HG : Hid (Wy w b o G K f B)) :
    Calls Try.prog 66 #[.pointer (some ⟨b, o, none⟩), .agg #[.int .u8 33, .int .u8 (wy : Int), .int .i64 (li : Int), .int .i64 (ri : Int), .int .i64 (k : Int)], .agg (six S), .agg (six T)] w fun e w' => e = .returned (.agg (six fun j => !(S j))) ∧ Below w.heap.size w w' := by
  have hgl := HG.out.lt
  obtain ⟨C, hC⟩ : ∃ C : Array Value, C = #[.int .u8 33, .int .u8 (wy : Int), .int .i64 (li : Int), .int .i64 (ri : Int), .int .i64 (k : Int)] := ⟨_, rfl⟩
  have HA0 : Hid (Arr ((((w.alloc (.cells C 97)).alloc (.cells (six S) 59)).alloc (.cells (six T) 59)).alloc (.cells (six fun _ => false) 59)) (w.heap.size + 1) 6 S) := ((arr_at _ _ 59 _ (by simp)).alloc _).alloc _
  have HT0 : Hid (Arr ((((w.alloc (.cells C 97)).alloc (.cells (six S) 59)).alloc (.cells (six T) 59)).alloc (.cells (six fun _ => false) 59)) (w.heap.size + 1 + 1) 6 T) := (arr_at _ _ 59 _ (by simp)).alloc _
  have HR0 : Hid (Arr ((((w.alloc (.cells C 97)).alloc (.cells (six S) 59)).alloc (.cells (six T) 59)).alloc (.cells (six fun _ => false) 59)) (w.heap.size + 1 + 1 + 1) 6 (fun _ => false)) := arr_at _ _ 59 _ (by simp)
  have hb0 := below4 w (.cells C 97) (.cells (six S) 59) (.cells (six T) 59) (.cells (six fun _ => false) 59)
  have HG0 : Hid (Wy _ b o G K f B) := HG.out.below hb0 hgl
  rw [hC] at HA0 HT0 HR0 hb0 HG0
  clear hC
  go_enter Try.func66, Try.ntmps66
  go_wp2_with (first
    | (refine loadS (by rfl) _ (by rfl) (w.heap.size + 1) (by rfl) S HA0.out ?_)
    | (refine loadS (by rfl) _ (by rfl) (w.heap.size + 1 + 1) (by rfl) T HT0.out ?_)
    | (go_at_call 65; refine (othersP_is S _).mono ?_; rintro e w4 ⟨rfl, hb4⟩)
    | (refine storeS (by rfl) _ _ (by rfl) (w.heap.size + 1 + 1 + 1) _ _ (by rfl) (by rfl) (HR0.out.below hb4 HR0.out.lt) ?_; intro w5 hb5 hz5 hk5 HR5))
  exact bodyPost_ret (resultS Try.results66 _ _ (w.heap.size + 1 + 1 + 1) _ rfl HR5) rfl ⟨rfl, (Below.to hb0 hb4).trans (hb5.mono (by omega))⟩

set_option maxRecDepth 100000 in
set_option maxHeartbeats 4000000 in
theorem hold_38 (b o wy li ri k : Nat) (G : Gph) (K : Nat → ByteArray) (f : ByteArray) (B S T : Nat → Bool) (w : World) (HG : Hid (Wy w b o G K f B)) :
    Calls Try.prog 66 #[.pointer (some ⟨b, o, none⟩), .agg #[.int .u8 38, .int .u8 (wy : Int), .int .i64 (li : Int), .int .i64 (ri : Int), .int .i64 (k : Int)], .agg (six S), .agg (six T)] w fun e w' => e = .returned (.agg (six fun j => S j && T j)) ∧ Below w.heap.size w w' := by
  have hgl := HG.out.lt
  obtain ⟨C, hC⟩ : ∃ C : Array Value, C = #[.int .u8 38, .int .u8 (wy : Int), .int .i64 (li : Int), .int .i64 (ri : Int), .int .i64 (k : Int)] := ⟨_, rfl⟩
  have HA0 : Hid (Arr ((((w.alloc (.cells C 97)).alloc (.cells (six S) 59)).alloc (.cells (six T) 59)).alloc (.cells (six fun _ => false) 59)) (w.heap.size + 1) 6 S) := ((arr_at _ _ 59 _ (by simp)).alloc _).alloc _
  have HT0 : Hid (Arr ((((w.alloc (.cells C 97)).alloc (.cells (six S) 59)).alloc (.cells (six T) 59)).alloc (.cells (six fun _ => false) 59)) (w.heap.size + 1 + 1) 6 T) := (arr_at _ _ 59 _ (by simp)).alloc _
  have HR0 : Hid (Arr ((((w.alloc (.cells C 97)).alloc (.cells (six S) 59)).alloc (.cells (six T) 59)).alloc (.cells (six fun _ => false) 59)) (w.heap.size + 1 + 1 + 1) 6 (fun _ => false)) := arr_at _ _ 59 _ (by simp)
  have hb0 := below4 w (.cells C 97) (.cells (six S) 59) (.cells (six T) 59) (.cells (six fun _ => false) 59)
  have HG0 : Hid (Wy _ b o G K f B) := HG.out.below hb0 hgl
  rw [hC] at HA0 HT0 HR0 hb0 HG0
  clear hC
  go_enter Try.func66, Try.ntmps66
  go_wp2_with (first
    | (refine loadS (by rfl) _ (by rfl) (w.heap.size + 1) (by rfl) S HA0.out ?_)
    | (refine loadS (by rfl) _ (by rfl) (w.heap.size + 1 + 1) (by rfl) T HT0.out ?_)
    | (go_at_call 92; refine (bothP_is S T _).mono ?_; rintro e w4 ⟨rfl, hb4⟩)
    | (refine storeS (by rfl) _ _ (by rfl) (w.heap.size + 1 + 1 + 1) _ _ (by rfl) (by rfl) (HR0.out.below hb4 HR0.out.lt) ?_; intro w5 hb5 hz5 hk5 HR5))
  exact bodyPost_ret (resultS Try.results66 _ _ (w.heap.size + 1 + 1 + 1) _ rfl HR5) rfl ⟨rfl, (Below.to hb0 hb4).trans (hb5.mono (by omega))⟩

set_option maxRecDepth 100000 in
set_option maxHeartbeats 4000000 in
theorem hold_43 (b o wy li ri k : Nat) (G : Gph) (K : Nat → ByteArray) (f : ByteArray) (B S T : Nat → Bool) (w : World) (HG : Hid (Wy w b o G K f B)) :
    Calls Try.prog 66 #[.pointer (some ⟨b, o, none⟩), .agg #[.int .u8 43, .int .u8 (wy : Int), .int .i64 (li : Int), .int .i64 (ri : Int), .int .i64 (k : Int)], .agg (six S), .agg (six T)] w fun e w' => e = .returned (.agg (six fun j => S j || T j)) ∧ Below w.heap.size w w' := by
  have hgl := HG.out.lt
  obtain ⟨C, hC⟩ : ∃ C : Array Value, C = #[.int .u8 43, .int .u8 (wy : Int), .int .i64 (li : Int), .int .i64 (ri : Int), .int .i64 (k : Int)] := ⟨_, rfl⟩
  have HA0 : Hid (Arr ((((w.alloc (.cells C 97)).alloc (.cells (six S) 59)).alloc (.cells (six T) 59)).alloc (.cells (six fun _ => false) 59)) (w.heap.size + 1) 6 S) := ((arr_at _ _ 59 _ (by simp)).alloc _).alloc _
  have HT0 : Hid (Arr ((((w.alloc (.cells C 97)).alloc (.cells (six S) 59)).alloc (.cells (six T) 59)).alloc (.cells (six fun _ => false) 59)) (w.heap.size + 1 + 1) 6 T) := (arr_at _ _ 59 _ (by simp)).alloc _
  have HR0 : Hid (Arr ((((w.alloc (.cells C 97)).alloc (.cells (six S) 59)).alloc (.cells (six T) 59)).alloc (.cells (six fun _ => false) 59)) (w.heap.size + 1 + 1 + 1) 6 (fun _ => false)) := arr_at _ _ 59 _ (by simp)
  have hb0 := below4 w (.cells C 97) (.cells (six S) 59) (.cells (six T) 59) (.cells (six fun _ => false) 59)
  have HG0 : Hid (Wy _ b o G K f B) := HG.out.below hb0 hgl
  rw [hC] at HA0 HT0 HR0 hb0 HG0
  clear hC
  go_enter Try.func66, Try.ntmps66
  go_wp2_with (first
    | (refine loadS (by rfl) _ (by rfl) (w.heap.size + 1) (by rfl) S HA0.out ?_)
    | (refine loadS (by rfl) _ (by rfl) (w.heap.size + 1 + 1) (by rfl) T HT0.out ?_)
    | (go_at_call 93; refine (eitherP_is S T _).mono ?_; rintro e w4 ⟨rfl, hb4⟩)
    | (refine storeS (by rfl) _ _ (by rfl) (w.heap.size + 1 + 1 + 1) _ _ (by rfl) (by rfl) (HR0.out.below hb4 HR0.out.lt) ?_; intro w5 hb5 hz5 hk5 HR5))
  exact bodyPost_ret (resultS Try.results66 _ _ (w.heap.size + 1 + 1 + 1) _ rfl HR5) rfl ⟨rfl, (Below.to hb0 hb4).trans (hb5.mono (by omega))⟩

set_option maxRecDepth 100000 in
set_option maxHeartbeats 4000000 in
theorem hold_let (b o sg wy li ri k : Nat) (G : Gph) (K : Nat → ByteArray) (f : ByteArray) (B S T : Nat → Bool) (b84 : ((sg : Int) == 84) = false) (b33 : ((sg : Int) == 33) = false) (b38 : ((sg : Int) == 38) = false) (b43 : ((sg : Int) == 43) = false) (b88 : ((sg : Int) == 88) = false) (b85 : ((sg : Int) == 85) = false) (b82 : ((sg : Int) == 82) = false) (w : World) (HG : Hid (Wy w b o G K f B)) :
    Calls Try.prog 66 #[.pointer (some ⟨b, o, none⟩), .agg #[.int .u8 (sg : Int), .int .u8 (wy : Int), .int .i64 (li : Int), .int .i64 (ri : Int), .int .i64 (k : Int)], .agg (six S), .agg (six T)] w fun e w' => e = .returned (.agg (six fun j => G.m j sg)) ∧ Below w.heap.size w w' := by
  have hgl := HG.out.lt
  obtain ⟨C, hC⟩ : ∃ C : Array Value, C = #[.int .u8 (sg : Int), .int .u8 (wy : Int), .int .i64 (li : Int), .int .i64 (ri : Int), .int .i64 (k : Int)] := ⟨_, rfl⟩
  have HA0 : Hid (Arr ((((w.alloc (.cells C 97)).alloc (.cells (six S) 59)).alloc (.cells (six T) 59)).alloc (.cells (six fun _ => false) 59)) (w.heap.size + 1) 6 S) := ((arr_at _ _ 59 _ (by simp)).alloc _).alloc _
  have HT0 : Hid (Arr ((((w.alloc (.cells C 97)).alloc (.cells (six S) 59)).alloc (.cells (six T) 59)).alloc (.cells (six fun _ => false) 59)) (w.heap.size + 1 + 1) 6 T) := (arr_at _ _ 59 _ (by simp)).alloc _
  have HR0 : Hid (Arr ((((w.alloc (.cells C 97)).alloc (.cells (six S) 59)).alloc (.cells (six T) 59)).alloc (.cells (six fun _ => false) 59)) (w.heap.size + 1 + 1 + 1) 6 (fun _ => false)) := arr_at _ _ 59 _ (by simp)
  have hb0 := below4 w (.cells C 97) (.cells (six S) 59) (.cells (six T) 59) (.cells (six fun _ => false) 59)
  have HG0 : Hid (Wy _ b o G K f B) := HG.out.below hb0 hgl
  rw [hC] at HA0 HT0 HR0 hb0 HG0
  clear hC
  have HBE := fun W (h : Hid (Wy W b o G K f B)) => bearing_P b o sg G K f B W h
  go_enter Try.func66, Try.ntmps66
  go_wp2_with (first
    | (refine loadS (by rfl) _ (by rfl) (w.heap.size + 1) (by rfl) S HA0.out ?_)
    | (refine loadS (by rfl) _ (by rfl) (w.heap.size + 1 + 1) (by rfl) T HT0.out ?_)
    | (go_at_call 96; refine (HBE _ HG0).mono ?_; rintro e w4 ⟨rfl, hb4⟩)
    | (refine storeS (by rfl) _ _ (by rfl) (w.heap.size + 1 + 1 + 1) _ _ (by rfl) (by rfl) (HR0.out.below hb4 HR0.out.lt) ?_; intro w5 hb5 hz5 hk5 HR5))
  exact bodyPost_ret (resultS Try.results66 _ _ (w.heap.size + 1 + 1 + 1) _ rfl HR5) rfl ⟨rfl, (Below.to hb0 hb4).trans (hb5.mono (by omega))⟩

end Go.Proofs.Ytkjnhhbibaimfaa
