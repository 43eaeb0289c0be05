import Derived.Test.YtkjnhhbibaimfaaPf
namespace Go.Proofs.Ytkjnhhbibaimfaa
open Go.RowKit Fw
set_option linter.unusedVariables false

set_option maxRecDepth 100000 in
set_option maxHeartbeats 4000000 in
theorem stayingP_is (b o : Nat) (G : Gph) (K : Nat → ByteArray) (f : ByteArray) (B S : Nat → Bool) (hf : f.size ≤ 1000) (w : World) (HG : Hid (Wy w b o G K f B)) :
    Calls Try.prog 64 #[.pointer (some ⟨b, o, none⟩), .agg (six S)] w fun e w' => e = .returned (.agg (six (stayP G (fsOf f) S))) ∧ Below w.heap.size w w' := by
  have hgl := HG.out.lt
  have HA0 : Hid (Arr ((w.alloc (.cells (six S) 59)).alloc (.cells (six fun _ => false) 59)) w.heap.size 6 S) := (arr_new w S 59).alloc _
  have HR0 : Hid (Arr ((w.alloc (.cells (six S) 59)).alloc (.cells (six fun _ => false) 59)) (w.heap.size + 1) 6 (fun _ => false)) := arr_at _ _ 59 _ (by simp)
  have hb0 := below2S w (.cells (six S) 59) (.cells (six fun _ => false) 59)
  have HG0 : Hid (Wy _ b o G K f B) := HG.out.below hb0 hgl
  have HST := fun W (h : Hid (Wy W b o G K f B)) => stepsP_is b o G K f B S W h
  have HSP : Hid (stayP G (fsOf f) S = rea G.e S (rnd G (fsOf f) (stp G S 6)) 5) := rfl
  obtain ⟨M, hM⟩ : ∃ M, M = stp G S 6 := ⟨_, rfl⟩
  rw [← hM] at HST HSP
  clear hM
  have HRO := fun (c : Nat) (hc : c < 6) W (h : Hid (Wy W b o G K f B)) => roundP_is b o c G K f B M hc hf W h
  obtain ⟨F, hF⟩ : ∃ F, F = rnd G (fsOf f) M := ⟨_, rfl⟩
  have HFc : Hid (∀ c, rnd G (fsOf f) M c = F c) := fun c => by rw [hF]
  rw [← hF] at HSP
  clear hF
  obtain ⟨D, hD⟩ : ∃ D, D = stayP G (fsOf f) S := ⟨_, rfl⟩
  rw [← hD] at HSP
  rw [← hD]
  clear hD
  go_enter Try.func64, Try.ntmps64
  go_wp2_with (first
    | (refine loadS (by rfl) _ (by rfl) w.heap.size (by rfl) S HA0.out ?_)
    | (go_at_call 89; refine (HST _ HG0).mono ?_; rintro e w1 ⟨rfl, hb1⟩)
    | (refine storeW (by rfl) _ _ (by rfl) w1.heap.size (fun _ _ => false) M (by rfl) (by rfl) (mat_new w1 145 _ rfl) ?_; intro w3 hb3 hz3 hk3 HM3))
  have HA1 : Hid (Arr w1 w.heap.size 6 S) := HA0.out.below hb1 HA0.out.lt
  have HR1 : Hid (Arr w1 (w.heap.size + 1) 6 (fun _ => false)) := HR0.out.below hb1 HR0.out.lt
  have hbel1 : Below w.heap.size w w1 := Below.to hb0 hb1
  have hb13 : Below w1.heap.size w1 w3 := ((Below.refl _ _).alloc (Nat.le_refl _) _).trans hb3
  have HA3 : Hid (Arr w3 w.heap.size 6 S) := HA1.out.below hb13 HA1.out.lt
  have HR3 : Hid (Arr w3 (w.heap.size + 1) 6 (fun _ => false)) := HR1.out.below hb13 HR1.out.lt
  have hbel3 : Below w.heap.size w w3 := Below.to hbel1 hb13
  have HM3' : Hid (Mat w3 w1.heap.size M) := HM3
  have q1 : w.heap.size + 1 < w1.heap.size := HR1.out.lt
  have q2 : w3.heap.size = w1.heap.size + 1 := by rw [hz3]; simp
  clear HM3 hb3 hz3 hk3 HA1 HR1 HA0 HR0 HG0 hb0 hb1 hb13 hbel1
  go_loopw [7] (fun q wr => ∃ i : Nat, i ≤ 6 ∧ q = .int .i64 i ∧ Below w.heap.size w wr ∧ Hid (Arr wr w.heap.size 6 S) ∧ Hid (Arr wr (w.heap.size + 1) 6 (fun _ => false)) ∧ Hid (Mat wr w1.heap.size M) ∧ Hid (Arr wr (w1.heap.size + 1) 6 (upto i F))) (fun q _ => 6 - (intOf q).toNat)
  case atStart =>
    refine ⟨0, by omega, rfl, Below.to hbel3 ((Below.refl _ _).alloc (Nat.le_refl _) _), HA3.out.alloc _, HR3.out.alloc _, HM3'.out.alloc _, ?_⟩
    show Arr _ _ _ _
    rw [upto_zero]
    exact arr_at _ (fun _ => false) 59 _ q2
  case round =>
    clear HA3 HR3 HM3' hbel3
    obtain ⟨i, hi, rfl, hbel, HA, HR, HM, HS⟩ := hrel
    by_cases hlt : i < 6
    · have HGr : Hid (Wy _ b o G K f B) := HG.out.below hbel hgl
      have i0 : (0 : Int) ≤ (i : Int) := by omega
      have i1 : (i : Int) < 6 := by omega
      have cs := HS.out.c i (by omega)
      have zs := HS.out.z i (by omega)
      have HC := HRO i hlt
      rw [HFc.out i] at HC
      go_wp2_with (first
        | (refine loadW (by rfl) _ (by rfl) w1.heap.size (by rfl) _ HM.out ?_)
        | (go_at_call 90; refine (HC _ HGr).mono ?_; rintro e w4 ⟨rfl, hb4⟩
           have cs4 := (hb4.cell (p := ⟨w1.heap.size + 1, i, none⟩) HS.out.lt).trans cs
           have zs4 := (hb4.frozen (p := ⟨w1.heap.size + 1, i, none⟩) HS.out.lt).trans zs))
      go_roundw
      case rel => exact ⟨i + 1, by omega, by go_num, (Below.to hbel hb4).setCell (by simp; omega) _, (HA.out.below hb4 HA.out.lt).setOther _ (by simp; omega), (HR.out.below hb4 HR.out.lt).setOther _ (by simp; omega), (HM.out.below hb4 HM.out.lt).setOther _ (by simp), (HS.out.below hb4 HS.out.lt).next (by omega) _ rfl⟩
      case measure => simp [intOf]; omega
    · obtain rfl : i = 6 := by omega
      have HGr : Hid (Wy _ b o G K f B) := HG.out.below hbel hgl
      have HS6 : Hid (Arr _ (w1.heap.size + 1) 6 F) := HS.out.congr fun j hj => by unfold upto; rw [if_pos hj]
      have HRE := fun W (h : Hid (Wy W b o G K f B)) => reachingP_is b o G K f B S F W h
      rw [← HSP.out] at HRE
      go_wp2_with (first
        | (refine loadS (by rfl) _ (by rfl) w.heap.size (by rfl) S HA.out ?_)
        | (refine loadS (by rfl) _ (by rfl) (w1.heap.size + 1) (by rfl) F HS6.out ?_)
        | (go_at_call 91; refine (HRE _ HGr).mono ?_; rintro e w4 ⟨rfl, hb4⟩)
        | (refine storeS (by rfl) _ _ (by rfl) (w.heap.size + 1) _ _ (by rfl) (by rfl) (HR.out.below hb4 HR.out.lt) ?_; intro w5 hb5 hz5 hk5 HR5))
      exact bodyPost_ret (resultS Try.results64 _ _ (w.heap.size + 1) _ rfl HR5) rfl ⟨rfl, (Below.to hbel hb4).trans (hb5.mono (by omega))⟩

end Go.Proofs.Ytkjnhhbibaimfaa
