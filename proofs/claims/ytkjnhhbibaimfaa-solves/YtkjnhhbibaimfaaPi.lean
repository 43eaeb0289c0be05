import Derived.Test.YtkjnhhbibaimfaaPh
namespace Go.Proofs.Ytkjnhhbibaimfaa
open Go.RowKit Fw
set_option linter.unusedVariables false

set_option maxRecDepth 100000 in
set_option maxHeartbeats 4000000 in
theorem someR_P (b o : Nat) (G : Gph) (K : Nat → ByteArray) (f : ByteArray) (B S T : Nat → Bool) (hf : f.size ≤ 1000) (w : World) (HG : Hid (Wy w b o G K f B)) :
    Calls Try.prog 95 #[.pointer (some ⟨b, o, none⟩), .int .u8 82, .agg (six S), .agg (six T)] w fun e w' => e = .returned (.agg (six fun j => rea G.e T (fun j => (S j && T j) && B j) 5 j || stayP G (fsOf f) T j)) ∧ Below w.heap.size w w' := by
  have hgl := HG.out.lt
  have HA0 : Hid (Arr (((w.alloc (.cells (six S) 59)).alloc (.cells (six T) 59)).alloc (.cells (six fun _ => false) 59)) w.heap.size 6 S) := ((arr_new w S 59).alloc _).alloc _
  have HT0 : Hid (Arr (((w.alloc (.cells (six S) 59)).alloc (.cells (six T) 59)).alloc (.cells (six fun _ => false) 59)) (w.heap.size + 1) 6 T) := (arr_at _ _ 59 _ (by simp)).alloc _
  have HR0 : Hid (Arr (((w.alloc (.cells (six S) 59)).alloc (.cells (six T) 59)).alloc (.cells (six fun _ => false) 59)) (w.heap.size + 1 + 1) 6 (fun _ => false)) := arr_at _ _ 59 _ (by simp)
  have hb0 := below3 w (.cells (six S) 59) (.cells (six T) 59) (.cells (six fun _ => false) 59)
  have HRE := fun C W (h : Hid (Wy W b o G K f B)) => reachingP_is b o G K f B T C W h
  have HSY := fun W (h : Hid (Wy W b o G K f B)) => stayingP_is b o G K f B T hf W h
  obtain ⟨D, hD⟩ : ∃ D, D = rea G.e T (fun j => (S j && T j) && B j) 5 := ⟨_, rfl⟩
  have HRE2 := HRE (fun j => (S j && T j) && B j)
  rw [← hD] at HRE2
  rw [← hD]
  obtain ⟨E, hE⟩ : ∃ E, E = stayP G (fsOf f) T := ⟨_, rfl⟩
  rw [← hE] at HSY
  rw [← hE]
  clear hD hE HRE
  go_enter Try.func95, Try.ntmps95
  go_wp2_with (first
    | (refine loadS (by rfl) _ (by rfl) w.heap.size (by rfl) S HA0.out ?_)
    | (refine loadS (by rfl) _ (by rfl) (w.heap.size + 1) (by rfl) T HT0.out ?_)
    | (go_at_call 92; refine (bothP_is S T _).mono ?_; rintro e w1 ⟨rfl, hb1⟩)
    | (refine storeS (by rfl) _ _ (by rfl) w1.heap.size (fun _ => false) (fun j => S j && T j) (by rfl) (by rfl) (arr_zero w1 59) ?_; intro w3 hb3 hz3 hk3 HL3))
  have HA1 : Hid (Arr w1 w.heap.size 6 S) := HA0.out.below hb1 HA0.out.lt
  have hb13 : Below w1.heap.size w1 w3 := ((Below.refl _ _).alloc (Nat.le_refl _) _).trans hb3
  have HT3 : Hid (Arr w3 (w.heap.size + 1) 6 T) := (HT0.out.below hb1 HT0.out.lt).below hb13 (HT0.out.below hb1 HT0.out.lt).lt
  have HR3 : Hid (Arr w3 (w.heap.size + 1 + 1) 6 (fun _ => false)) := (HR0.out.below hb1 HR0.out.lt).below hb13 (HR0.out.below hb1 HR0.out.lt).lt
  have q1 : w.heap.size + 1 + 1 < w1.heap.size := (HR0.out.below hb1 HR0.out.lt).lt
  have hbel : Below w.heap.size w w3 := Below.to (Below.to hb0 hb1) hb13
  have HG3 : Hid (Wy w3 b o G K f B) := HG.out.below hbel hgl
  obtain ⟨R, hR⟩ : ∃ R, R = fun j => S j && T j := ⟨_, rfl⟩
  have HL3' : Hid (Arr w3 w1.heap.size 6 R) := by rw [hR]; exact HL3
  have HRE3 : ∀ W, Hid (Wy W b o G K f B) → Calls Try.prog 91 #[.pointer (some ⟨b, o, none⟩), .agg (six T), .agg (six fun j => R j && B j)] W fun e w' => e = .returned (.agg (six D)) ∧ Below W.heap.size W w' := by rw [hR]; exact HRE2
  clear hR HL3 HA1 HA0 HT0 HR0 hb0 hb1 hb3 hz3 hk3 hb13 HRE2
  have HK : Hid (∀ w', Below w3.heap.size w3 w' → (fun w' => (w'.cell? ⟨(w.heap.size + 1), 0, none⟩ = some (.bool (T 0)) ∧ w'.cell? ⟨(w.heap.size + 1), 1, none⟩ = some (.bool (T 1)) ∧ w'.cell? ⟨(w.heap.size + 1), 2, none⟩ = some (.bool (T 2)) ∧ w'.cell? ⟨(w.heap.size + 1), 3, none⟩ = some (.bool (T 3)) ∧ w'.cell? ⟨(w.heap.size + 1), 4, none⟩ = some (.bool (T 4)) ∧ w'.cell? ⟨(w.heap.size + 1), 5, none⟩ = some (.bool (T 5))) ∧ (w'.cell? ⟨w1.heap.size, 0, none⟩ = some (.bool (R 0)) ∧ w'.cell? ⟨w1.heap.size, 1, none⟩ = some (.bool (R 1)) ∧ w'.cell? ⟨w1.heap.size, 2, none⟩ = some (.bool (R 2)) ∧ w'.cell? ⟨w1.heap.size, 3, none⟩ = some (.bool (R 3)) ∧ w'.cell? ⟨w1.heap.size, 4, none⟩ = some (.bool (R 4)) ∧ w'.cell? ⟨w1.heap.size, 5, none⟩ = some (.bool (R 5))) ∧ (w'.cell? ⟨b, o + 46, none⟩ = some (.bool (B 0)) ∧ w'.cell? ⟨b, o + 47, none⟩ = some (.bool (B 1)) ∧ w'.cell? ⟨b, o + 48, none⟩ = some (.bool (B 2)) ∧ w'.cell? ⟨b, o + 49, none⟩ = some (.bool (B 3)) ∧ w'.cell? ⟨b, o + 50, none⟩ = some (.bool (B 4)) ∧ w'.cell? ⟨b, o + 51, none⟩ = some (.bool (B 5)))) w') := fun w' h => ⟨cells1 (HT3.out.below h HT3.out.lt), cells1 (HL3'.out.below h HL3'.out.lt), (HG3.out.below h HG3.out.lt).begin⟩
  go_region_held3 (fun w' => (w'.cell? ⟨(w.heap.size + 1), 0, none⟩ = some (.bool (T 0)) ∧ w'.cell? ⟨(w.heap.size + 1), 1, none⟩ = some (.bool (T 1)) ∧ w'.cell? ⟨(w.heap.size + 1), 2, none⟩ = some (.bool (T 2)) ∧ w'.cell? ⟨(w.heap.size + 1), 3, none⟩ = some (.bool (T 3)) ∧ w'.cell? ⟨(w.heap.size + 1), 4, none⟩ = some (.bool (T 4)) ∧ w'.cell? ⟨(w.heap.size + 1), 5, none⟩ = some (.bool (T 5))) ∧ (w'.cell? ⟨w1.heap.size, 0, none⟩ = some (.bool (R 0)) ∧ w'.cell? ⟨w1.heap.size, 1, none⟩ = some (.bool (R 1)) ∧ w'.cell? ⟨w1.heap.size, 2, none⟩ = some (.bool (R 2)) ∧ w'.cell? ⟨w1.heap.size, 3, none⟩ = some (.bool (R 3)) ∧ w'.cell? ⟨w1.heap.size, 4, none⟩ = some (.bool (R 4)) ∧ w'.cell? ⟨w1.heap.size, 5, none⟩ = some (.bool (R 5))) ∧ (w'.cell? ⟨b, o + 46, none⟩ = some (.bool (B 0)) ∧ w'.cell? ⟨b, o + 47, none⟩ = some (.bool (B 1)) ∧ w'.cell? ⟨b, o + 48, none⟩ = some (.bool (B 2)) ∧ w'.cell? ⟨b, o + 49, none⟩ = some (.bool (B 3)) ∧ w'.cell? ⟨b, o + 50, none⟩ = some (.bool (B 4)) ∧ w'.cell? ⟨b, o + 51, none⟩ = some (.bool (B 5)))) (first
      | exact HK.out _ hc6
      | exact HK.out _ hc5
      | exact HK.out _ (Below.al hc5)
      | exact HK.out _ hc4
      | exact HK.out _ (Below.al hc4)
      | exact HK.out _ (Below.refl _ _).drew
      | exact HK.out _ (Below.al (Below.refl _ _).drew)) (first
    | (go_at_call 92; refine (bothP_is R B _).mono ?_; rintro e w4 ⟨rfl, hb4⟩
       have hc4 : Below w3.heap.size w3 w4 := by first | exact Below.dr hb4 | exact Below.dr (Below.past hb4)
       first
         | (have HP4 : Hid (Arr w4 w3.heap.size 6 (fun _ => false)) := (arr_at w3.drew (fun _ => false) 59 _ rfl).below hb4 (by simp))
         | skip)
    | (go_at_call 91; refine (HRE3 _ (HG3.out.below (by first | exact hc4 | exact Below.al hc4) HG3.out.lt)).mono ?_; rintro e w5 ⟨rfl, hb5⟩
       have hc5 : Below w3.heap.size w3 w5 := by first | exact Below.to hc4 hb5 | exact Below.to hc4 (Below.past hb5)
       first
         | (have HP5 := (arr_at w4 (fun _ => false) 59 _ rfl).below hb5 (by simp)
            obtain ⟨w6, hrun6, hb6, hz6, hk6, HR6⟩ := stores6 HP5 D)
         | (have HP5 := Arr.below HP4 hb5 (Arr.lt HP4)
            obtain ⟨w6, hrun6, hb6, hz6, hk6, HR6⟩ := stores6 HP5 D)
         | (obtain ⟨w6, hrun6, hb6, hz6, hk6, HR6⟩ := stores6 (arr_zero w5 59) D)
       have hc6 : Below w3.heap.size w3 w6 := by
         first
           | exact hc5.trans (hb6.mono (by first | exact Nat.le_refl _ | exact hc4.size | exact hc5.size))
           | exact (Below.al hc5).trans (hb6.mono (by first | exact Nat.le_refl _ | exact hc4.size | exact hc5.size))))
  all_goals
    have HP6 : Hid (Arr w6 _ 6 _) := HR6
    have q7 : w3.heap.size ≤ Arr.blk HP6 := by first | exact Nat.le_refl _ | exact hc4.size | exact hc5.size
    have q3 : w.heap.size + 1 + 1 < w3.heap.size := HR3.out.lt
    have HT6 : Hid (Arr w6 (w.heap.size + 1) 6 T) := HT3.out.below hc6 HT3.out.lt
    have HRR : Hid (Arr w6 (w.heap.size + 1 + 1) 6 (fun _ => false)) := HR3.out.below hc6 HR3.out.lt
    have hbel6 : Below w.heap.size w w6 := Below.to hbel hc6
    have HG6 : Hid (Wy w6 b o G K f B) := HG.out.below hbel6 hgl
    clear HK hrun6 hb6 hz6 hk6 HR6
    obtain ⟨Q, hQ⟩ : ∃ Q, Q = Arr.blk HP6 := ⟨_, rfl⟩
    have HQ6 : Hid (Arr w6 Q 6 D) := by rw [hQ]; exact HP6.out
    rw [← hQ] at q7
    simp only [Arr.blk] at hQ
    clear HP6
    go_wp2_with fail
    rw [← hQ]
    clear hQ
    have e1 : w.heap.size + 1 + 1 ≠ Q := by omega
    have HK : Hid (∀ w', Below w6.heap.size w6 w' → (fun w' => (w'.cell? ⟨(w.heap.size + 1), 0, none⟩ = some (.bool (T 0)) ∧ w'.cell? ⟨(w.heap.size + 1), 1, none⟩ = some (.bool (T 1)) ∧ w'.cell? ⟨(w.heap.size + 1), 2, none⟩ = some (.bool (T 2)) ∧ w'.cell? ⟨(w.heap.size + 1), 3, none⟩ = some (.bool (T 3)) ∧ w'.cell? ⟨(w.heap.size + 1), 4, none⟩ = some (.bool (T 4)) ∧ w'.cell? ⟨(w.heap.size + 1), 5, none⟩ = some (.bool (T 5))) ∧ (w'.cell? ⟨Q, 0, none⟩ = some (.bool (D 0)) ∧ w'.cell? ⟨Q, 1, none⟩ = some (.bool (D 1)) ∧ w'.cell? ⟨Q, 2, none⟩ = some (.bool (D 2)) ∧ w'.cell? ⟨Q, 3, none⟩ = some (.bool (D 3)) ∧ w'.cell? ⟨Q, 4, none⟩ = some (.bool (D 4)) ∧ w'.cell? ⟨Q, 5, none⟩ = some (.bool (D 5)))) w') := fun w' h => ⟨cells1 (HT6.out.below h HT6.out.lt), cells1 (HQ6.out.below h HQ6.out.lt)⟩
    go_region_held3 (fun w' => (w'.cell? ⟨(w.heap.size + 1), 0, none⟩ = some (.bool (T 0)) ∧ w'.cell? ⟨(w.heap.size + 1), 1, none⟩ = some (.bool (T 1)) ∧ w'.cell? ⟨(w.heap.size + 1), 2, none⟩ = some (.bool (T 2)) ∧ w'.cell? ⟨(w.heap.size + 1), 3, none⟩ = some (.bool (T 3)) ∧ w'.cell? ⟨(w.heap.size + 1), 4, none⟩ = some (.bool (T 4)) ∧ w'.cell? ⟨(w.heap.size + 1), 5, none⟩ = some (.bool (T 5))) ∧ (w'.cell? ⟨Q, 0, none⟩ = some (.bool (D 0)) ∧ w'.cell? ⟨Q, 1, none⟩ = some (.bool (D 1)) ∧ w'.cell? ⟨Q, 2, none⟩ = some (.bool (D 2)) ∧ w'.cell? ⟨Q, 3, none⟩ = some (.bool (D 3)) ∧ w'.cell? ⟨Q, 4, none⟩ = some (.bool (D 4)) ∧ w'.cell? ⟨Q, 5, none⟩ = some (.bool (D 5)))) (first
        | exact ⟨cells1 HT9.out, cells1 HQ9.out⟩
        | exact HK.out _ hc8
        | exact HK.out _ hc7
        | exact HK.out _ (Below.refl _ _).drew) (first
      | (go_at_call 64; refine (HSY _ HG6.out.drew).mono ?_; rintro e w7 ⟨rfl, hb7⟩
         have hc7 : Below w6.heap.size w6 w7 := Below.dr hb7)
      | (go_at_call 93; refine (eitherP_is D E _).mono ?_; rintro e w8 ⟨rfl, hb8⟩
         have hc8 : Below w6.heap.size w6 w8 := Below.to hc7 hb8
         have HR8 : Hid (Arr w8 (w.heap.size + 1 + 1) 6 (fun _ => false)) := HRR.out.below hc8 HRR.out.lt
         obtain ⟨w9, hrun9, hb9, hz9, hk9, HR9'⟩ := stores6 HR8.out (fun j => D j || E j)
         have HR9 : Hid (Arr w9 (w.heap.size + 1 + 1) 6 (fun j => D j || E j)) := HR9'
         have HT9 : Hid (Arr w9 (w.heap.size + 1) 6 T) := (HT6.out.below hc8 HT6.out.lt).otherK hz9 hk9 (by omega)
         have HQ9 : Hid (Arr w9 Q 6 D) := (HQ6.out.below hc8 HQ6.out.lt).otherK hz9 hk9 (by omega)
         clear HR9'))
    all_goals
      go_wp2_with fail
      exact bodyPost_ret (resultS Try.results95 _ _ (w.heap.size + 1 + 1) _ rfl HR9.out) rfl ⟨rfl, (Below.to hbel6 hc8).trans (hb9.mono (by omega))⟩

end Go.Proofs.Ytkjnhhbibaimfaa
