import Derived.Test.YtkjnhhbibaimfaaPc
import Derived.Test.YtkjnhhbibaimfaaSj
namespace Go.Proofs.Ytkjnhhbibaimfaa
open Go.RowKit Fw
set_option linter.unusedVariables false

theorem Wy.drew {w : World} {b o : Nat} {G : Gph} {K : Nat → ByteArray} {f : ByteArray} {B : Nat → Bool} (h : Wy w b o G K f B) : Wy w.drew b o G K f B := ⟨h.lt, h.n6, h.cn, h.cm, h.ce, h.cf, h.cb, h.ks, h.mm⟩

set_option maxRecDepth 100000 in
set_option maxHeartbeats 4000000 in
theorem reachingP_is (b o : Nat) (G : Gph) (K : Nat → ByteArray) (f : ByteArray) (B S T : Nat → Bool) (w : World) (HG : Hid (Wy w b o G K f B)) :
    Calls Try.prog 91 #[.pointer (some ⟨b, o, none⟩), .agg (six S), .agg (six T)] w fun e w' => e = .returned (.agg (six (rea G.e S T 5))) ∧ Below w.heap.size w w' := by
  have hgl := HG.out.lt
  have HA0 : Hid (Arr ((((w.alloc (.cells (six S) 59)).alloc (.cells (six T) 59)).alloc (.cells (six fun _ => false) 59)).alloc (.cells (six fun _ => false) 59)) w.heap.size 6 S) := (((arr_new w S 59).alloc _).alloc _).alloc _
  have HT0 : Hid (Arr (((w.alloc (.cells (six S) 59)).alloc (.cells (six T) 59)).alloc (.cells (six fun _ => false) 59)) (w.heap.size + 1) 6 T) := (arr_at _ _ 59 _ (by simp)).alloc _
  have HR0 : Hid (Arr ((((w.alloc (.cells (six S) 59)).alloc (.cells (six T) 59)).alloc (.cells (six fun _ => false) 59)).alloc (.cells (six fun _ => false) 59)) (w.heap.size + 1 + 1) 6 (fun _ => false)) := (arr_at _ _ 59 _ (by simp)).alloc _
  have hb0 := below4 w (.cells (six S) 59) (.cells (six T) 59) (.cells (six fun _ => false) 59) (.cells (six fun _ => false) 59)
  have HAH := fun (C : Nat → Bool) w' (h : Hid (Wy w' b o G K f B)) => aheadP_is b o G K f B C w' h
  go_enter Try.func91, Try.ntmps91
  go_wp2_with (first
    | (refine loadS (by rfl) _ (by rfl) (w.heap.size + 1) (by rfl) T HT0.out ?_)
    | (refine storeS (by rfl) _ _ (by rfl) (w.heap.size + 1 + 1 + 1) (fun _ => false) T (by rfl) (by rfl) (arr_at _ (fun _ => false) 59 _ (by simp)) ?_; intro w3 hb3 hz3 hk3 HL3))
  have HA3 : Hid (Arr w3 w.heap.size 6 S) := HA0.out.below hb3 (by omega)
  have HR3 : Hid (Arr w3 (w.heap.size + 1 + 1) 6 (fun _ => false)) := HR0.out.below hb3 (by omega)
  have hbel3 : Below w.heap.size w w3 := hb0.trans (hb3.mono (by omega))
  have HL3' : Hid (Arr w3 (w.heap.size + 1 + 1 + 1) 6 T) := HL3
  clear HL3 hb3 hz3 hk3 HA0 HT0 HR0 hb0
  go_loopw [8] (fun q wr => ∃ k : Nat, k ≤ 5 ∧ q = .int .i64 ((k + 1 : Nat) : Int) ∧ Below w.heap.size w wr ∧ Hid (Arr wr w.heap.size 6 S) ∧ Hid (Arr wr (w.heap.size + 1 + 1) 6 (fun _ => false)) ∧ Hid (Arr wr (w.heap.size + 1 + 1 + 1) 6 (rea G.e S T k))) (fun q _ => 6 - (intOf q).toNat)
  case atStart => exact ⟨0, by omega, rfl, hbel3, HA3, HR3, HL3'⟩
  case round =>
    clear hbel3 HA3 HR3 HL3'
    obtain ⟨k, hk, rfl, hbel, HA, HR, HL⟩ := hrel
    by_cases hlt : k < 5
    · have hlt' : ((k : Int) + 1) < 6 := by omega
      obtain ⟨C, hC⟩ : ∃ C, C = rea G.e S T k := ⟨_, rfl⟩
      have HN : Hid ((fun j => C j || (S j && ahd G.e C j)) = rea G.e S T (k + 1)) := by rw [hC]; rfl
      rw [← hC] at HL
      clear hC
      have HAHC := HAH C
      obtain ⟨D, hD⟩ : ∃ D, D = ahd G.e C := ⟨_, rfl⟩
      rw [← hD] at HAHC HN
      clear hD
      obtain ⟨c0, c1, c2, c3, c4, c5⟩ := cells1 HL.out
      go_wp2_with fail
      obtain ⟨s0, s1, s2, s3, s4, s5⟩ := cells1 HA.out
      go_region_with (first
        | (go_at_call 112; refine (HAHC _ (HG.out.below hbel.drew hgl)).mono ?_; rintro e w4 ⟨rfl, hb4⟩
           have HA4 : Hid (Arr w4 w.heap.size 6 S) := HA.out.drew.below hb4 HA.out.drew.lt
           have HL4 : Hid (Arr w4 (w.heap.size + 1 + 1 + 1) 6 C) := HL.out.drew.below hb4 HL.out.drew.lt
           have HR4 : Hid (Arr w4 (w.heap.size + 1 + 1) 6 (fun _ => false)) := HR.out.drew.below hb4 HR.out.drew.lt
           have hbel4 : Below w.heap.size w w4 := Below.to hbel.drew hb4
           obtain ⟨c40, c41, c42, c43, c44, c45⟩ := cells1 HL4.out
           obtain ⟨s40, s41, s42, s43, s44, s45⟩ := cells1 HA4.out)
        | (go_at_call 92; refine (bothP_is S D _).mono ?_; rintro e w5 ⟨rfl, hb5⟩
           have HA5 : Hid (Arr w5 w.heap.size 6 S) := HA4.out.below hb5 HA4.out.lt
           have HL5 : Hid (Arr w5 (w.heap.size + 1 + 1 + 1) 6 C) := HL4.out.below hb5 HL4.out.lt
           have HR5 : Hid (Arr w5 (w.heap.size + 1 + 1) 6 (fun _ => false)) := HR4.out.below hb5 HR4.out.lt
           have hbel5 : Below w.heap.size w w5 := Below.to hbel4 hb5
           obtain ⟨c50, c51, c52, c53, c54, c55⟩ := cells1 HL5.out)
        | (go_at_call 93; refine (eitherP_is C (fun j => S j && D j) _).mono ?_; rintro e w6 ⟨rfl, hb6⟩
           have HA6 : Hid (Arr w6 w.heap.size 6 S) := HA5.out.below hb6 HA5.out.lt
           have HL6 : Hid (Arr w6 (w.heap.size + 1 + 1 + 1) 6 C) := HL5.out.below hb6 HL5.out.lt
           have HR6 : Hid (Arr w6 (w.heap.size + 1 + 1) 6 (fun _ => false)) := HR5.out.below hb6 HR5.out.lt
           have hbel6 : Below w.heap.size w w6 := Below.to hbel5 hb6
           obtain ⟨w7, hrun7, hb7, hz7, hk7, HL7'⟩ := stores6 HL6.out (fun j => C j || (S j && D j))
           have HA7 : Hid (Arr w7 w.heap.size 6 S) := HA6.out.otherK hz7 hk7 (by omega)
           have HR7 : Hid (Arr w7 (w.heap.size + 1 + 1) 6 (fun _ => false)) := HR6.out.otherK hz7 hk7 (by omega)
           have HL7 : Hid (Arr w7 (w.heap.size + 1 + 1 + 1) 6 (fun j => C j || (S j && D j))) := HL7'
           have hbel7 : Below w.heap.size w w7 := hbel6.trans (hb7.mono (by omega))
           clear HL7'))
      all_goals
        go_wp2_with fail
        go_roundw
        case rel => exact ⟨k + 1, by omega, by go_num, hbel7, HA7, HR7, by show Arr _ _ _ _; rw [← HN.out]; exact HL7.out⟩
        case measure => simp [intOf]; omega
    · obtain rfl : k = 5 := by omega
      go_wp2_with (first | (refine loadS (by rfl) _ (by rfl) (w.heap.size + 1 + 1 + 1) (by rfl) _ HL.out ?_) | (refine storeS (by rfl) _ _ (by rfl) (w.heap.size + 1 + 1) _ _ (by rfl) (by rfl) HR.out ?_; intro w5 hb5 hz5 hk5 HR5))
      exact bodyPost_ret (resultS Try.results91 _ _ (w.heap.size + 1 + 1) _ rfl HR5) rfl ⟨rfl, hbel.trans (hb5.mono (by omega))⟩

end Go.Proofs.Ytkjnhhbibaimfaa
