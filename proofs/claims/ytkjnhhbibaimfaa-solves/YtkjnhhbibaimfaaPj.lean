import Derived.Test.YtkjnhhbibaimfaaPi
import Derived.Test.YtkjnhhbibaimfaaZa
namespace Go.Proofs.Ytkjnhhbibaimfaa
open Go.RowKit Fw
set_option linter.unusedVariables false

theorem some_P (b o sg : Nat) (G : Gph) (K : Nat → ByteArray) (f : ByteArray) (S T : Nat → Bool) (hs : sg = 88 ∨ sg = 85 ∨ sg = 82) (hf : f.size ≤ 1000) (w : World) (HG : Hid (Wy w b o G K f (begP G (fsOf f)))) :
    Calls Try.prog 95 #[.pointer (some ⟨b, o, none⟩), .int .u8 (sg : Int), .agg (six S), .agg (six T)] w fun e w' => e = .returned (.agg (six (someP G (fsOf f) sg S T))) ∧ Below w.heap.size w w' := by
  rcases hs with rfl | rfl | rfl
  · exact someX_P b o G K f _ S T w HG
  · exact someU_P b o G K f _ S T w HG
  · exact someR_P b o G K f _ S T hf w HG

theorem opp_P (sg : Nat) (hs : sg = 88 ∨ sg = 85 ∨ sg = 82) (w : World) : Calls Try.prog 72 #[.int .u8 (sg : Int)] w fun e w' => e = .returned (.int .u8 ((Fw.flip sg : Nat) : Int)) ∧ w' = w := by
  rcases hs with rfl | rfl | rfl <;>
  · go_enter Try.func72, Try.ntmps72
    go_wp2_with fail
    go_ret
    exact ⟨rfl, rfl⟩

theorem flip_way {sg : Nat} (hs : sg = 88 ∨ sg = 85 ∨ sg = 82) : Fw.flip sg = 88 ∨ Fw.flip sg = 85 ∨ Fw.flip sg = 82 := by
  rcases hs with rfl | rfl | rfl <;> simp [Fw.flip]

set_option maxRecDepth 100000 in
set_option maxHeartbeats 4000000 in
theorem every_core (b o sg fl : Nat) (G : Gph) (K : Nat → ByteArray) (f : ByteArray) (B S T N : Nat → Bool) (w : World) (HG : Hid (Wy w b o G K f B))
    (HOP : ∀ W, Calls Try.prog 72 #[.int .u8 (sg : Int)] W fun e w' => e = .returned (.int .u8 (fl : Int)) ∧ w' = W)
    (HSO : ∀ W, Hid (Wy W b o G K f B) → Calls Try.prog 95 #[.pointer (some ⟨b, o, none⟩), .int .u8 (fl : Int), .agg (six fun j => !(S j)), .agg (six fun j => !(T j))] W fun e w' => e = .returned (.agg (six N)) ∧ Below W.heap.size W w') :
    Calls Try.prog 94 #[.pointer (some ⟨b, o, none⟩), .int .u8 (sg : Int), .agg (six S), .agg (six T)] w fun e w' => e = .returned (.agg (six fun j => !(N j))) ∧ Below w.heap.size w w' := by
  have hgl := HG.out.lt
  have HA0 : Hid (Arr (((w.alloc (.cells (six S) 59)).alloc (.cells (six T) 59)).alloc (.cells (six fun _ => false) 59)) w.heap.size 6 S) := ((arr_new w S 59).alloc _).alloc _
  have HT0 : Hid (Arr (((w.alloc (.cells (six S) 59)).alloc (.cells (six T) 59)).alloc (.cells (six fun _ => false) 59)) (w.heap.size + 1) 6 T) := (arr_at _ _ 59 _ (by simp)).alloc _
  have HR0 : Hid (Arr (((w.alloc (.cells (six S) 59)).alloc (.cells (six T) 59)).alloc (.cells (six fun _ => false) 59)) (w.heap.size + 1 + 1) 6 (fun _ => false)) := arr_at _ _ 59 _ (by simp)
  have hb0 := below3 w (.cells (six S) 59) (.cells (six T) 59) (.cells (six fun _ => false) 59)
  go_enter Try.func94, Try.ntmps94
  go_wp2_with fail
  generalize hW : ((w.alloc (Obj.cells (six S) 59)).alloc (Obj.cells (six T) 59)).alloc (Obj.cells #[Value.bool false, Value.bool false, Value.bool false, Value.bool false, Value.bool false, Value.bool false] 59) = w3
  have HA3 : Hid (Arr w3 w.heap.size 6 S) := by show Arr _ _ _ _; rw [← hW]; exact HA0.out
  have HT3 : Hid (Arr w3 (w.heap.size + 1) 6 T) := by show Arr _ _ _ _; rw [← hW]; exact HT0.out
  have HR3 : Hid (Arr w3 (w.heap.size + 1 + 1) 6 (fun _ => false)) := by show Arr _ _ _ _; rw [← hW]; exact HR0.out
  have hbel : Below w.heap.size w w3 := by rw [← hW]; exact hb0
  clear hW HA0 HT0 HR0 hb0
  have HG3 : Hid (Wy w3 b o G K f B) := HG.out.below hbel hgl
  have HK : Hid (∀ w', Below w3.heap.size w3 w' → (fun w' => (w'.cell? ⟨w.heap.size, 0, none⟩ = some (.bool (S 0)) ∧ w'.cell? ⟨w.heap.size, 1, none⟩ = some (.bool (S 1)) ∧ w'.cell? ⟨w.heap.size, 2, none⟩ = some (.bool (S 2)) ∧ w'.cell? ⟨w.heap.size, 3, none⟩ = some (.bool (S 3)) ∧ w'.cell? ⟨w.heap.size, 4, none⟩ = some (.bool (S 4)) ∧ w'.cell? ⟨w.heap.size, 5, none⟩ = some (.bool (S 5))) ∧ (w'.cell? ⟨(w.heap.size + 1), 0, none⟩ = some (.bool (T 0)) ∧ w'.cell? ⟨(w.heap.size + 1), 1, none⟩ = some (.bool (T 1)) ∧ w'.cell? ⟨(w.heap.size + 1), 2, none⟩ = some (.bool (T 2)) ∧ w'.cell? ⟨(w.heap.size + 1), 3, none⟩ = some (.bool (T 3)) ∧ w'.cell? ⟨(w.heap.size + 1), 4, none⟩ = some (.bool (T 4)) ∧ w'.cell? ⟨(w.heap.size + 1), 5, none⟩ = some (.bool (T 5)))) w') := fun w' h => ⟨cells1 (HA3.out.below h HA3.out.lt), cells1 (HT3.out.below h HT3.out.lt)⟩
  go_region_held3 (fun w' => (w'.cell? ⟨w.heap.size, 0, none⟩ = some (.bool (S 0)) ∧ w'.cell? ⟨w.heap.size, 1, none⟩ = some (.bool (S 1)) ∧ w'.cell? ⟨w.heap.size, 2, none⟩ = some (.bool (S 2)) ∧ w'.cell? ⟨w.heap.size, 3, none⟩ = some (.bool (S 3)) ∧ w'.cell? ⟨w.heap.size, 4, none⟩ = some (.bool (S 4)) ∧ w'.cell? ⟨w.heap.size, 5, none⟩ = some (.bool (S 5))) ∧ (w'.cell? ⟨(w.heap.size + 1), 0, none⟩ = some (.bool (T 0)) ∧ w'.cell? ⟨(w.heap.size + 1), 1, none⟩ = some (.bool (T 1)) ∧ w'.cell? ⟨(w.heap.size + 1), 2, none⟩ = some (.bool (T 2)) ∧ w'.cell? ⟨(w.heap.size + 1), 3, none⟩ = some (.bool (T 3)) ∧ w'.cell? ⟨(w.heap.size + 1), 4, none⟩ = some (.bool (T 4)) ∧ w'.cell? ⟨(w.heap.size + 1), 5, none⟩ = some (.bool (T 5)))) (first
      | exact HK.out _ hc7
      | exact HK.out _ hc6
      | exact HK.out _ (Below.al hc6)
      | exact HK.out _ hc5
      | exact HK.out _ (Below.al hc5)
      | exact HK.out _ hc4
      | exact HK.out _ (Below.al hc4)
      | exact HK.out _ (Below.refl _ _).drew
      | exact HK.out _ (Below.al (Below.refl _ _).drew)) (first
    | (go_at_call 72; refine (HOP _).mono ?_; rintro e w' ⟨rfl, rfl⟩)
    | (go_at_call_of 65 (S 0); refine (othersP_is S _).mono ?_; rintro e w4 ⟨rfl, hb4⟩
       have hc4 : Below w3.heap.size w3 w4 := by first | exact Below.dr hb4 | exact Below.dr (Below.past hb4)
       first
         | (have HP4 : Hid (Arr w4 w3.heap.size 6 (fun _ => false)) := (arr_at w3.drew (fun _ => false) 59 _ rfl).below hb4 (by simp))
         | skip)
    | (go_at_call_of 65 (T 0); refine (othersP_is T _).mono ?_; rintro e w5 ⟨rfl, hb5⟩
       have hc5 : Below w3.heap.size w3 w5 := by first | exact Below.to hc4 hb5 | exact Below.to hc4 (Below.past hb5)
       first
         | (have HP5 : Hid (Arr w5 w4.heap.size 6 (fun _ => false)) := (arr_at w4 (fun _ => false) 59 _ rfl).below hb5 (by simp))
         | (have HP5 := HP4.out.below hb5 HP4.out.lt)
         | skip)
    | (go_at_call 95; refine (HSO _ (HG3.out.below (by first | exact hc5 | exact Below.al hc5) HG3.out.lt)).mono ?_; rintro e w6 ⟨rfl, hb6⟩
       have hc6 : Below w3.heap.size w3 w6 := by first | exact Below.to hc5 hb6 | exact Below.to hc5 (Below.past hb6)
       first
         | (have HP6 := (arr_at w5 (fun _ => false) 59 _ rfl).below hb6 (by simp)
            obtain ⟨w7, hrun7, hb7, hz7, hk7, HR7⟩ := stores6 HP6 N)
         | (have HP6 := Arr.below HP5 hb6 (Arr.lt HP5)
            obtain ⟨w7, hrun7, hb7, hz7, hk7, HR7⟩ := stores6 HP6 N)
         | (obtain ⟨w7, hrun7, hb7, hz7, hk7, HR7⟩ := stores6 (arr_zero w6 59) N)
       have hc7 : Below w3.heap.size w3 w7 := by
         first
           | exact hc6.trans (hb7.mono (by first | exact Nat.le_refl _ | exact hc4.size | exact hc5.size | exact hc6.size))
           | exact (Below.al hc6).trans (hb7.mono (by first | exact Nat.le_refl _ | exact hc4.size | exact hc5.size | exact hc6.size))))
  all_goals
    have HP7 : Hid (Arr w7 _ 6 _) := HR7
    have hbel7 : Below w.heap.size w w7 := Below.to hbel hc7
    have HRR : Hid (Arr w7 (w.heap.size + 1 + 1) 6 (fun _ => false)) := HR3.out.below hc7 HR3.out.lt
    clear HK hrun7 hb7 hz7 hk7 HR7
    go_wp2_with (first
      | (refine loadS (by rfl) _ (by rfl) (Arr.blk HP7) (by rfl) N HP7.out ?_)
      | (go_at_call 65; refine (othersP_is N _).mono ?_; rintro e w8 ⟨rfl, hb8⟩)
      | (refine storeS (by rfl) _ _ (by rfl) (w.heap.size + 1 + 1) _ _ (by rfl) (by rfl) (HRR.out.below hb8 HRR.out.lt) ?_; intro w9 hb9 hz9 hk9 HR9))
    exact bodyPost_ret (resultS Try.results94 _ _ (w.heap.size + 1 + 1) _ rfl HR9) rfl ⟨rfl, (Below.to hbel7 hb8).trans (hb9.mono (by omega))⟩

theorem every_P (b o sg : Nat) (G : Gph) (K : Nat → ByteArray) (f : ByteArray) (S T : Nat → Bool) (hs : sg = 88 ∨ sg = 85 ∨ sg = 82) (hf : f.size ≤ 1000) (w : World) (HG : Hid (Wy w b o G K f (begP G (fsOf f)))) :
    Calls Try.prog 94 #[.pointer (some ⟨b, o, none⟩), .int .u8 (sg : Int), .agg (six S), .agg (six T)] w fun e w' => e = .returned (.agg (six (everyP G (fsOf f) sg S T))) ∧ Below w.heap.size w w' :=
  every_core b o sg (Fw.flip sg) G K f _ S T (someP G (fsOf f) (Fw.flip sg) (fun j => !(S j)) (fun j => !(T j))) w HG (fun W => opp_P sg hs W) (fun W h => some_P b o (Fw.flip sg) G K f _ _ (flip_way hs) hf W h)

set_option maxRecDepth 100000 in
set_option maxHeartbeats 4000000 in
theorem bearing_P (b o c : Nat) (G : Gph) (K : Nat → ByteArray) (f : ByteArray) (B : Nat → Bool) (w : World) (HG : Hid (Wy w b o G K f B)) :
    Calls Try.prog 96 #[.pointer (some ⟨b, o, none⟩), .int .u8 (c : Int)] w fun e w' => e = .returned (.agg (six fun j => G.m j c)) ∧ Below w.heap.size w w' := by
  have hgl := HG.out.lt
  go_enter Try.func96, Try.ntmps96
  go_wp2_with fail
  go_loopw [6] (fun q wr => ∃ k : Nat, k ≤ 6 ∧ q = .int .i64 k ∧ Below w.heap.size w wr ∧ Hid (Arr wr w.heap.size 6 (fun _ => false)) ∧ Hid (Arr wr (w.heap.size + 1) 6 (upto k fun j => G.m j c))) (fun q _ => 6 - (intOf q).toNat)
  case atStart =>
    refine ⟨0, by omega, rfl, below2S w _ _, (arr_new w (fun _ => false) 59).alloc _, ?_⟩
    show Arr _ _ _ _
    rw [upto_zero]
    exact arr_at _ (fun _ => false) 59 _ (by simp)
  case round =>
    obtain ⟨k, hk, rfl, hbel, HR, HS⟩ := hrel
    have HGr : Hid (Wy _ b o G K f B) := HG.out.below hbel hgl
    have e1 : w.heap.size ≠ w.heap.size + 1 := by omega
    by_cases hlt : k < 6
    · have cs := HS.out.c k (by omega)
      have zs := HS.out.z k (by omega)
      have k0 : (0 : Int) ≤ (k : Int) := by omega
      have k1 : (k : Int) < 6 := by omega
      have HBE := fun W (h : Hid (Wy W b o G K f B)) => bearsP_is b o k c G K f B W hlt h
      go_wp2_with (go_at_call 113; refine (HBE _ HGr).mono ?_; rintro e w1 ⟨rfl, rfl⟩)
      go_roundw
      case rel => exact ⟨k + 1, by omega, by go_num, hbel.setCell (by simp) _, HR.out.setOther _ (Ne.symm e1), HS.out.next (by omega) _ rfl⟩
      case measure => simp [intOf]; omega
    · obtain rfl : k = 6 := by omega
      go_wp2_with (first | (refine loadS (by rfl) _ (by rfl) (w.heap.size + 1) (by rfl) _ HS.out ?_) | (refine storeS (by rfl) _ _ (by rfl) w.heap.size _ _ (by rfl) (by rfl) HR.out ?_; intro w5 hb5 hz5 hk5 HR5))
      exact bodyPost_ret (resultS Try.results96 _ _ w.heap.size _ rfl HR5) rfl ⟨rfl, hbel.trans (hb5.mono (by omega))⟩

end Go.Proofs.Ytkjnhhbibaimfaa
