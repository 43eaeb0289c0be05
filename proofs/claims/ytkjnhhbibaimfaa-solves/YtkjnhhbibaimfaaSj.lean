import Derived.Test.YtkjnhhbibaimfaaSi
namespace Go.Proofs.Ytkjnhhbibaimfaa
open Go.RowKit Fw
set_option linter.unusedVariables false

theorem arr_zero (w : World) (t : TypeId) : Arr (w.alloc (.cells #[.bool false, .bool false, .bool false, .bool false, .bool false, .bool false] t)) w.heap.size 6 (fun _ => false) := arr_new w (fun _ => false) t
theorem Below.past {w w' : World} {o : Obj} (h : Below (w.alloc o).heap.size (w.alloc o) w') : Below w.heap.size w w' := ((Below.refl _ _).alloc (Nat.le_refl _) _).trans (h.mono (by simp))
theorem Below.dr {w w' : World} (h : Below w.drew.heap.size w.drew w') : Below w.heap.size w w' := (Below.refl _ _).drew.trans h
theorem Below.al {w0 w : World} {o : Obj} (h : Below w0.heap.size w0 w) : Below w0.heap.size w0 (w.alloc o) := h.alloc (Nat.le_trans h.size (Nat.le_refl _)) _
abbrev Arr.same {w : World} {B n : Nat} {f : Nat → Bool} (_ : Hid (Arr w B n f)) (w' : World) (g : Nat → Bool) : Prop := Arr w' B n g
abbrev Arr.blk {w : World} {B n : Nat} {f : Nat → Bool} (_ : Hid (Arr w B n f)) : Nat := B
/-- the one turned into the other, up to i -/
def mix (i : Nat) (F C : Nat → Bool) : Nat → Bool := fun j => if j < i then F j else C j
theorem mix_zero (F C : Nat → Bool) : mix 0 F C = C := by funext j; simp [mix]
theorem mix_here (i : Nat) (F C : Nat → Bool) : mix i F C i = C i := by simp [mix]
theorem mix_all (n : Nat) (F C : Nat → Bool) : mix n F (upto n C) = upto n F := by
  funext j; unfold mix upto; split
  · rfl
  · rfl
theorem Arr.mix {w : World} {B n i : Nat} {F C : Nat → Bool} (h : Arr w B n (mix i F C)) (hi : i < n) (v : Bool) (hv : v = F i) : Arr (w.setCell ⟨B, i, none⟩ (.bool v)) B n (Ytkjnhhbibaimfaa.mix (i + 1) F C) := by
  refine (h.set i v hi).congr fun j hj => ?_
  unfold Ytkjnhhbibaimfaa.mix
  by_cases e : j = i
  · subst e; simp [hv]
  · rw [if_neg e]
    by_cases h1 : j < i
    · rw [if_pos h1, if_pos (by omega)]
    · rw [if_neg h1, if_neg (by omega)]

set_option maxRecDepth 100000 in
set_option maxHeartbeats 4000000 in
theorem someR_is (gb : Nat) (G : Gph) (ok : G.ok) (mk : Nat → ByteArray) (S T : Nat → Bool) (f : ByteArray) (w : World) (hf : f.size ≤ 1000) (HG : Hid (Gm w gb G mk)) :
    Calls Try.prog 83 #[.pointer (some ⟨gb, 0, none⟩), .int .u8 82, .agg (six S), .agg (six T), .string f] w fun e w' => e = .returned (.agg (six (upto G.n (someB G (fsOf f) 82 S T)))) ∧ Below w.heap.size w w' := by
  have hgl := HG.out.lt
  have HOK : Hid G.ok := ok
  clear ok
  have HA0 : Hid (Arr (((w.alloc (.cells (six S) 111)).alloc (.cells (six T) 111)).alloc (.cells (six fun _ => false) 111)) w.heap.size 6 S) := ((arr_new w S 111).alloc _).alloc _
  have HT0 : Hid (Arr (((w.alloc (.cells (six S) 111)).alloc (.cells (six T) 111)).alloc (.cells (six fun _ => false) 111)) (w.heap.size + 1) 6 T) := (arr_at _ _ 111 _ (by simp)).alloc _
  have HR0 : Hid (Arr (((w.alloc (.cells (six S) 111)).alloc (.cells (six T) 111)).alloc (.cells (six fun _ => false) 111)) (w.heap.size + 1 + 1) 6 (fun _ => false)) := arr_at _ _ 111 _ (by simp)
  have hb0 := below3 w (.cells (six S) 111) (.cells (six T) 111) (.cells (six fun _ => false) 111)
  have HG0 : Hid (Gm _ gb G mk) := HG.out.below hb0 hgl
  have HFU := fun w' (h : Hid (Gm w' gb G mk)) => fullB_of gb G mk w' h
  have HST := fun w' (h : Hid (Gm w' gb G mk)) => stays_is gb G HOK.out mk (fullB G) f w' hf h
  have HCO := fun U w' (h : Hid (Gm w' gb G mk)) => comes_is gb G HOK.out mk T U w' h
  have HS2 := fun w' (h : Hid (Gm w' gb G mk)) => stays_is gb G HOK.out mk T f w' hf h
  have HU : Hid (∀ i, i < G.n → someB G (fsOf f) 82 S T i = (upto G.n (comesB G T fun j => (S j && T j) && upto G.n (liveB G (fsOf f)) j) i || upto G.n (staysB G (fsOf f) T) i)) := by
    intro i hi
    rw [comes_upto G T (fun j => (S j && T j) && upto G.n (liveB G (fsOf f)) j) (fun j => (S j && T j) && liveB G (fsOf f) j) (fun j hj => by rw [upto_lt hj]), upto_lt hi, upto_lt hi]
    rfl
  obtain ⟨F, hF⟩ : ∃ F, F = someB G (fsOf f) 82 S T := ⟨_, rfl⟩
  rw [← hF] at HU
  rw [← hF]
  clear hF
  have HL : staysB G (fsOf f) (fullB G) = liveB G (fsOf f) := rfl
  rw [HL] at HST
  clear HL
  obtain ⟨L, hL⟩ : ∃ L, L = upto G.n (liveB G (fsOf f)) := ⟨_, rfl⟩
  rw [← hL] at HST HU
  obtain ⟨D, hD⟩ : ∃ D, D = upto G.n (staysB G (fsOf f) T) := ⟨_, rfl⟩
  rw [← hD] at HS2 HU
  clear hD
  clear hL
  go_enter Try.func83, Try.ntmps83
  go_wp2_with (first
    | (go_at_call 102; refine (HFU _ HG0).mono ?_; rintro e w1 ⟨rfl, hb1⟩)
    | (go_at_call 101; refine (HST _ (HG0.out.below hb1 HG0.out.lt)).mono ?_; rintro e w2 ⟨rfl, hb2⟩)
    | (refine store6 (by rfl) _ _ (by rfl) w2.heap.size (fun _ => false) L (by rfl) (by rfl) (arr_at w2 (fun _ => false) 111 _ rfl) ?_; intro w3 hb3 hz3 hk3 HL3))
  have hb02 := Below.to hb1 hb2
  have hb23 : Below w2.heap.size w2 w3 := ((Below.refl _ _).alloc (Nat.le_refl _) _).trans hb3
  have hb03 := Below.to hb02 hb23
  have HA3 : Hid (Arr w3 w.heap.size 6 S) := HA0.out.below hb03 HA0.out.lt
  have HT3 : Hid (Arr w3 (w.heap.size + 1) 6 T) := HT0.out.below hb03 HT0.out.lt
  have HR3 : Hid (Arr w3 (w.heap.size + 1 + 1) 6 (fun _ => false)) := HR0.out.below hb03 HR0.out.lt
  have hbel : Below w.heap.size w w3 := Below.to hb0 hb03
  have HLL : Hid (Arr w3 w2.heap.size 6 L) := HL3
  have q1 : w.heap.size + 1 + 1 < w2.heap.size := (HR0.out.below hb02 HR0.out.lt).lt
  clear HL3 HA0 HT0 HR0 HG0 hb0 hb1 hb2 hb3 hk3 hb02 hb23 hb03 hz3
  have HK : Hid (∀ w', Below w3.heap.size w3 w' → (fun w' => (w'.cell? ⟨w.heap.size, 0, none⟩ = some (.bool (S 0)) ∧ w'.cell? ⟨w.heap.size, 1, none⟩ = some (.bool (S 1)) ∧ w'.cell? ⟨w.heap.size, 2, none⟩ = some (.bool (S 2)) ∧ w'.cell? ⟨w.heap.size, 3, none⟩ = some (.bool (S 3)) ∧ w'.cell? ⟨w.heap.size, 4, none⟩ = some (.bool (S 4)) ∧ w'.cell? ⟨w.heap.size, 5, none⟩ = some (.bool (S 5))) ∧ (w'.cell? ⟨(w.heap.size + 1), 0, none⟩ = some (.bool (T 0)) ∧ w'.cell? ⟨(w.heap.size + 1), 1, none⟩ = some (.bool (T 1)) ∧ w'.cell? ⟨(w.heap.size + 1), 2, none⟩ = some (.bool (T 2)) ∧ w'.cell? ⟨(w.heap.size + 1), 3, none⟩ = some (.bool (T 3)) ∧ w'.cell? ⟨(w.heap.size + 1), 4, none⟩ = some (.bool (T 4)) ∧ w'.cell? ⟨(w.heap.size + 1), 5, none⟩ = some (.bool (T 5))) ∧ (w'.cell? ⟨w2.heap.size, 0, none⟩ = some (.bool (L 0)) ∧ w'.cell? ⟨w2.heap.size, 1, none⟩ = some (.bool (L 1)) ∧ w'.cell? ⟨w2.heap.size, 2, none⟩ = some (.bool (L 2)) ∧ w'.cell? ⟨w2.heap.size, 3, none⟩ = some (.bool (L 3)) ∧ w'.cell? ⟨w2.heap.size, 4, none⟩ = some (.bool (L 4)) ∧ w'.cell? ⟨w2.heap.size, 5, none⟩ = some (.bool (L 5)))) w') := fun w' h => ⟨cells1 (HA3.out.below h HA3.out.lt), cells1 (HT3.out.below h HT3.out.lt), cells1 (HLL.out.below h HLL.out.lt)⟩
  go_region_held3 (fun w' => (w'.cell? ⟨w.heap.size, 0, none⟩ = some (.bool (S 0)) ∧ w'.cell? ⟨w.heap.size, 1, none⟩ = some (.bool (S 1)) ∧ w'.cell? ⟨w.heap.size, 2, none⟩ = some (.bool (S 2)) ∧ w'.cell? ⟨w.heap.size, 3, none⟩ = some (.bool (S 3)) ∧ w'.cell? ⟨w.heap.size, 4, none⟩ = some (.bool (S 4)) ∧ w'.cell? ⟨w.heap.size, 5, none⟩ = some (.bool (S 5))) ∧ (w'.cell? ⟨(w.heap.size + 1), 0, none⟩ = some (.bool (T 0)) ∧ w'.cell? ⟨(w.heap.size + 1), 1, none⟩ = some (.bool (T 1)) ∧ w'.cell? ⟨(w.heap.size + 1), 2, none⟩ = some (.bool (T 2)) ∧ w'.cell? ⟨(w.heap.size + 1), 3, none⟩ = some (.bool (T 3)) ∧ w'.cell? ⟨(w.heap.size + 1), 4, none⟩ = some (.bool (T 4)) ∧ w'.cell? ⟨(w.heap.size + 1), 5, none⟩ = some (.bool (T 5))) ∧ (w'.cell? ⟨w2.heap.size, 0, none⟩ = some (.bool (L 0)) ∧ w'.cell? ⟨w2.heap.size, 1, none⟩ = some (.bool (L 1)) ∧ w'.cell? ⟨w2.heap.size, 2, none⟩ = some (.bool (L 2)) ∧ w'.cell? ⟨w2.heap.size, 3, none⟩ = some (.bool (L 3)) ∧ w'.cell? ⟨w2.heap.size, 4, none⟩ = some (.bool (L 4)) ∧ w'.cell? ⟨w2.heap.size, 5, none⟩ = some (.bool (L 5)))) (first
      | exact HK.out _ hc7
      | exact HK.out _ hc6
      | exact HK.out _ (Below.al hc6)
      | exact HK.out _ hc5
      | exact HK.out _ (Below.al hc5)
      | exact HK.out _ hc4
      | exact HK.out _ (Below.al hc4)
      | exact HK.out _ (Below.refl _ _).drew
      | exact HK.out _ (Below.al (Below.refl _ _).drew)) (first
    | (go_at_call_of 81 (Value.agg (six fun j => S j && T j)); refine (both_is (fun j => S j && T j) L _).mono ?_; rintro e w5 ⟨rfl, hb5⟩
       have hc5 : Below w3.heap.size w3 w5 := by first | exact Below.to hc4 hb5 | exact Below.to hc4 (Below.past hb5)
       first
         | (have HP5 : Hid (Arr w5 w4.heap.size 6 (fun _ => false)) := (arr_at w4 (fun _ => false) 111 _ rfl).below hb5 (by simp))
         | (have HP5 := HP4.out.below hb5 HP4.out.lt)
         | skip)
    | (go_at_call 81; refine (both_is S T _).mono ?_; rintro e w4 ⟨rfl, hb4⟩
       have hc4 : Below w3.heap.size w3 w4 := by first | exact Below.dr hb4 | exact Below.dr (Below.past hb4)
       first
         | (have HP4 : Hid (Arr w4 w3.heap.size 6 (fun _ => false)) := (arr_at w3.drew (fun _ => false) 111 _ rfl).below hb4 (by simp))
         | skip)
    | (go_at_call 103; refine (HCO _ _ (HG.out.below (by first | exact Below.to hbel hc5 | exact Below.to hbel (Below.al hc5)) hgl)).mono ?_; rintro e w6 ⟨rfl, hb6⟩
       have hc6 : Below w3.heap.size w3 w6 := by first | exact Below.to hc5 hb6 | exact Below.to hc5 (Below.past hb6)
       first
         | (have HP6 := (arr_at w5 (fun _ => false) 111 _ rfl).below hb6 (by simp)
            obtain ⟨w7, hrun7, hb7, hz7, hk7, HR7⟩ := stores6 HP6 (upto G.n (comesB G T fun j => (S j && T j) && L j)))
         | (have HP6 := Arr.below HP5 hb6 (Arr.lt HP5)
            obtain ⟨w7, hrun7, hb7, hz7, hk7, HR7⟩ := stores6 HP6 (upto G.n (comesB G T fun j => (S j && T j) && L j)))
         | (obtain ⟨w7, hrun7, hb7, hz7, hk7, HR7⟩ := stores6 (arr_zero w6 111) (upto G.n (comesB G T fun j => (S j && T j) && L j)))
       have hc7 : Below w3.heap.size w3 w7 := by
         first
           | exact hc6.trans (hb7.mono (by first | exact Nat.le_refl _ | exact hc4.size | exact hc5.size | exact hc6.size))
           | exact (Below.al hc6).trans (hb7.mono (by first | exact Nat.le_refl _ | exact hc4.size | exact hc5.size | exact hc6.size))))
  all_goals
    have HP7 : Hid (Arr w7 _ 6 _) := HR7
    have q7 : w3.heap.size ≤ Arr.blk HP7 := by first | exact Nat.le_refl _ | exact hc4.size | exact hc5.size | exact hc6.size
    have q3 : w.heap.size + 1 + 1 < w3.heap.size := HR3.out.lt
    have HT7 : Hid (Arr w7 (w.heap.size + 1) 6 T) := HT3.out.below hc7 HT3.out.lt
    have HRR : Hid (Arr w7 (w.heap.size + 1 + 1) 6 (fun _ => false)) := HR3.out.below hc7 HR3.out.lt
    have hbel7 : Below w.heap.size w w7 := Below.to hbel hc7
    have HG7 : Hid (Gm w7 gb G mk) := HG.out.below hbel7 hgl
    clear HK hrun7 hb7 hz7 hk7 HR7
    go_wp2_with (first
      | (refine load6 (by rfl) _ (by rfl) (w.heap.size + 1) (by rfl) T HT7.out ?_)
      | (go_at_call 101; refine (HS2 _ HG7).mono ?_; rintro e w8 ⟨rfl, hb8⟩)
      | (refine store6 (by rfl) _ _ (by rfl) w8.heap.size (fun _ => false) D (by rfl) (by rfl) (arr_zero w8 111) ?_; intro w9 hb9 hz9 hk9 HD9))
    have hc8 : Below w7.heap.size w7 w9 := hb8.trans ((((Below.refl _ _).alloc (Nat.le_refl _) _).trans hb9).mono hb8.size)
    have HP9 : Hid (Arr w9 _ 6 _) := HP7.out.below hc8 HP7.out.lt
    have HR9 : Hid (Arr w9 (w.heap.size + 1 + 1) 6 (fun _ => false)) := HRR.out.below hc8 HRR.out.lt
    have HD9' : Hid (Arr w9 w8.heap.size 6 D) := HD9
    have hbel9 : Below w.heap.size w w9 := Below.to hbel7 hc8
    have q8 : Arr.blk HP7 < w8.heap.size := Nat.lt_of_lt_of_le HP7.out.lt hb8.size
    have e1 : w8.heap.size ≠ Arr.blk HP7 := by omega
    have e2 : w.heap.size + 1 + 1 ≠ Arr.blk HP7 := by omega
    have e3 : w.heap.size ≤ Arr.blk HP7 := by omega
    clear hc8 HT7 HRR HG7 HD9 hb9 hz9 hk9
    go_loopw [17] (fun q wr => ∃ i : Nat, i ≤ G.n ∧ q = .int .i64 i ∧ Below w.heap.size w wr ∧ Hid (Arr wr (w.heap.size + 1 + 1) 6 (fun _ => false)) ∧ Hid (Arr wr w8.heap.size 6 D) ∧ Hid (Arr.same HP9 wr (mix i F (upto G.n (comesB G T fun j => S j && T j && L j))))) (fun q _ => G.n - (intOf q).toNat)
    case atStart =>
      refine ⟨0, by omega, rfl, hbel9, HR9, HD9', ?_⟩
      show Arr _ _ _ _
      rw [mix_zero]
      exact HP9.out
    case round =>
      clear hbel9 HR9 HD9'
      obtain ⟨i, hi, rfl, hbel9, HR, HD, HS⟩ := hrel
      have hn := (HG.out.below hbel9 hgl).cn
      have hg6 := HG.out.n6
      by_cases hlt : i < G.n
      · have i0 : (0 : Int) ≤ (i : Int) := by omega
        have i1 : (i : Int) < 6 := by omega
        have cd := HD.out.c i (by omega)
        have cs := HS.out.c i (by omega)
        have zs := HS.out.z i (by omega)
        rw [mix_here] at cs
        have HX : Hid (F i = (upto G.n (comesB G T fun j => S j && T j && L j) i || D i)) := HU.out i hlt
        obtain ⟨x, hx⟩ : ∃ x, x = upto G.n (comesB G T fun j => S j && T j && L j) i := ⟨_, rfl⟩
        rw [← hx] at cs HX
        clear hx
        cases x with
        | true =>
          go_wp2_with fail
          go_roundw
          case rel => exact ⟨i + 1, by omega, by go_num, hbel9.setCell e3 _, HR.out.setOther _ (Ne.symm e2), HD.out.setOther _ (Ne.symm e1), HS.out.mix (by omega) _ (by rw [HX.out]; simp)⟩
          case measure => simp [intOf]; omega
        | false =>
          go_wp2_with fail
          go_roundw
          case rel => exact ⟨i + 1, by omega, by go_num, hbel9.setCell e3 _, HR.out.setOther _ (Ne.symm e2), HD.out.setOther _ (Ne.symm e1), HS.out.mix (by omega) _ (by rw [HX.out]; simp)⟩
          case measure => simp [intOf]; omega
      · have hkn : i = G.n := by omega
        have HKn : Hid (i = G.n) := hkn
        clear hkn
        go_wp2_with (first
          | (refine load6 (by rfl) _ (by rfl) (Arr.blk HP9) (by rfl) _ HS.out ?_)
          | (refine store6 (by rfl) _ _ (by rfl) (w.heap.size + 1 + 1) _ _ (by rfl) (by rfl) HR.out ?_; intro w5 hb5 hz5 hk5 HR5))
        refine bodyPost_ret (result6 Try.results83 _ _ (w.heap.size + 1 + 1) _ rfl HR5) rfl ⟨?_, hbel9.trans (hb5.mono (by omega))⟩
        rw [HKn.out, mix_all]

end Go.Proofs.Ytkjnhhbibaimfaa
