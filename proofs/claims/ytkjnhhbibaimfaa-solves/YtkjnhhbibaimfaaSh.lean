import Derived.Test.YtkjnhhbibaimfaaSg
namespace Go.Proofs.Ytkjnhhbibaimfaa
open Go.RowKit Fw
set_option linter.unusedVariables false

set_option maxRecDepth 100000 in
set_option maxHeartbeats 4000000 in
theorem comes_is (gb : Nat) (G : Gph) (ok : G.ok) (mk : Nat → ByteArray) (S T : Nat → Bool) (w : World) (HG : Hid (Gm w gb G mk)) :
    Calls Try.prog 103 #[.pointer (some ⟨gb, 0, none⟩), .agg (six S), .agg (six T)] w fun e w' => e = .returned (.agg (six (upto G.n (comesB G S T)))) ∧ Below w.heap.size w w' := by
  have hg6 := HG.out.n6
  have hgl := HG.out.lt
  have HOK : Hid G.ok := ok
  clear ok
  have HA0 : Hid (Arr (((w.alloc (.cells (six S) 111)).alloc (.cells (six T) 111)).alloc (.cells (six fun _ => false) 111)) w.heap.size 6 S) := ((arr_new w S 111).alloc _).alloc _
  have HT0 : Hid (Arr (((w.alloc (.cells (six S) 111)).alloc (.cells (six T) 111)).alloc (.cells (six fun _ => false) 111)) (w.heap.size + 1) 6 T) := (arr_at _ _ 111 _ (by simp)).alloc _
  have HR0 : Hid (Arr (((w.alloc (.cells (six S) 111)).alloc (.cells (six T) 111)).alloc (.cells (six fun _ => false) 111)) (w.heap.size + 1 + 1) 6 (fun _ => false)) := arr_at _ _ 111 _ (by simp)
  have hb0 := below3 w (.cells (six S) 111) (.cells (six T) 111) (.cells (six fun _ => false) 111)
  have HG0 : Hid (Gm _ gb G mk) := HG.out.below hb0 hgl
  obtain ⟨M, hM⟩ : ∃ M, M = fw G.e S G.n := ⟨_, rfl⟩
  have HF : Hid (∀ i, comesB G S T i = (T i || anyU (fun j => T j && M i j) G.n)) := by
    intro i
    rw [hM]; rfl
  obtain ⟨F, hF⟩ : ∃ F, F = comesB G S T := ⟨_, rfl⟩
  rw [← hF] at HF
  rw [← hF]
  have HW : ∀ w', Hid (Gm w' gb G mk) → Calls Try.prog 114 #[.pointer (some ⟨gb, 0, none⟩), .agg (six S)] w' fun e w'' => e = .returned (.agg (bools 36 (flat6 M)).toArray) ∧ Below w'.heap.size w' w'' := by
    intro w' h
    rw [hM]
    exact web_is gb G HOK.out mk S w' h
  clear hM hF
  go_enter Try.func103, Try.ntmps103
  go_wp2_with (first
    | (refine load6 (by rfl) _ (by rfl) w.heap.size (by rfl) S HA0.out ?_)
    | (go_at_call 114; refine (HW _ HG0).mono ?_; rintro e w1 ⟨rfl, hb1⟩)
    | (refine store36 (by rfl) _ _ (by rfl) w1.heap.size (fun _ _ => false) M (by rfl) (by rfl) (mat_new w1 113 _ rfl) ?_; intro w3 hb3 hz3 hk3 HM3))
  have HA1 : Hid (Arr w1 (w.heap.size + 1) 6 T) := HT0.out.below hb1 HT0.out.lt
  have HR1 : Hid (Arr w1 (w.heap.size + 1 + 1) 6 (fun _ => false)) := HR0.out.below hb1 HR0.out.lt
  have hbel1 : Below w.heap.size w w1 := Below.to hb0 hb1
  have hb13 : Below w1.heap.size w1 w3 := ((Below.refl _ _).alloc (Nat.le_refl _) _).trans hb3
  have HA3 : Hid (Arr w3 (w.heap.size + 1) 6 T) := HA1.out.below hb13 HA1.out.lt
  have HR3 : Hid (Arr w3 (w.heap.size + 1 + 1) 6 (fun _ => false)) := HR1.out.below hb13 HR1.out.lt
  have hbel3 : Below w.heap.size w w3 := Below.to hbel1 hb13
  have HM3' : Hid (Mat w3 w1.heap.size M) := HM3
  have q1 : w.heap.size + 1 + 1 < w1.heap.size := HR1.out.lt
  have q2 : w3.heap.size = w1.heap.size + 1 := by rw [hz3]; simp
  clear HM3 hb3 hz3 hk3 HA1 HR1 HA0 HT0 HR0 HG0 hb0 hb1 hb13 hbel1
  go_loopw [9] (fun q wr => ∃ i : Nat, i ≤ G.n ∧ q = .int .i64 i ∧ Below w.heap.size w wr ∧ Hid (Arr wr (w.heap.size + 1) 6 T) ∧ Hid (Arr wr (w.heap.size + 1 + 1) 6 (fun _ => false)) ∧ Hid (Mat wr w1.heap.size M) ∧ Hid (Arr wr (w1.heap.size + 1) 6 (upto i F))) (fun q _ => G.n - (intOf q).toNat)
  case atStart =>
    refine ⟨0, by omega, rfl, Below.to hbel3 ((Below.refl _ _).alloc (Nat.le_refl _) _), HA3.out.alloc _, HR3.out.alloc _, HM3'.out.alloc _, ?_⟩
    show Arr _ _ _ _
    rw [upto_zero]
    exact arr_at _ (fun _ => false) 111 _ q2
  case round =>
    clear HA3 HR3 HM3' hbel3
    obtain ⟨i, hi, rfl, hbel, HA, HR, HM, HS⟩ := hrel
    have hn := (HG.out.below hbel hgl).cn
    by_cases hlt : i < G.n
    · have i0 : (0 : Int) ≤ (i : Int) := by omega
      have i1 : (i : Int) < 6 := by omega
      have ca := HA.out.c i (by omega)
      have zs := HS.out.z i (by omega)
      have cs := HS.out.c i (by omega)
      go_wp2_with fail
      clear hn
      go_loopw [10] (fun q wr => ∃ c : Nat, c ≤ G.n ∧ q = .int .i64 c ∧ Below w.heap.size w wr ∧ Hid (Arr wr (w.heap.size + 1) 6 T) ∧ Hid (Arr wr (w.heap.size + 1 + 1) 6 (fun _ => false)) ∧ Hid (Mat wr w1.heap.size M) ∧ Hid (Arr wr (w1.heap.size + 1) 6 (part i F (T i || anyU (fun j => T j && M i j) c)))) (fun q _ => G.n - (intOf q).toNat)
      case atStart => exact ⟨0, by omega, rfl, hbel.setCell (by simp; omega) _, HA.out.setOther _ (by simp; omega), HR.out.setOther _ (by simp; omega), HM.out.setOther _ (by simp), HS.out.partIn.part (by omega) _ _ (by rw [anyU_zero, Bool.or_false])⟩
      case round =>
        clear hbel HA HR HM HS ca zs cs
        obtain ⟨c, hc, rfl, hbel, HA, HR, HM, HS⟩ := hrel
        have HGr : Hid (Gm _ gb G mk) := HG.out.below hbel hgl
        have hn := HGr.out.cn
        by_cases hcl : c < G.n
        · have ca := HA.out.c c (by omega)
          have cm := HM.out.c i c (by omega) (by omega)
          have zs := HS.out.z i (by omega)
          have cs := HS.out.c i (by omega)
          rw [part_here] at cs
          have c0 : (0 : Int) ≤ (c : Int) := by omega
          have c1 : (c : Int) < 6 := by omega
          have HX := anyU_succ (fun j => T j && M i j) c
          obtain ⟨x, hx⟩ : ∃ x, x = T c := ⟨_, rfl⟩
          obtain ⟨m, hm⟩ : ∃ m, m = M i c := ⟨_, rfl⟩
          obtain ⟨b, hb⟩ : ∃ b, b = (T i || anyU (fun j => T j && M i j) c) := ⟨_, rfl⟩
          rw [← hx] at ca
          rw [← hm] at cm
          rw [← hb] at cs
          have HX2 : Hid ((T i || anyU (fun j => T j && M i j) (c + 1)) = (b || (x && m))) := by
            show _ = _
            rw [HX, ← Bool.or_assoc, ← hb, ← hx, ← hm]
          clear HX hx hm hb
          cases b with
          | true =>
            go_wp2_with fail
            go_roundw
            case rel => exact ⟨c + 1, by omega, by go_num, hbel.setCell (by simp; omega) _, HA.out.setOther _ (by simp; omega), HR.out.setOther _ (by simp; omega), HM.out.setOther _ (by simp), HS.out.part (by omega) _ _ (by rw [HX2.out]; simp)⟩
            case measure => simp [intOf]; omega
          | false =>
            cases x with
            | false =>
              go_wp2_with fail
              go_roundw
              case rel => exact ⟨c + 1, by omega, by go_num, hbel.setCell (by simp; omega) _, HA.out.setOther _ (by simp; omega), HR.out.setOther _ (by simp; omega), HM.out.setOther _ (by simp), HS.out.part (by omega) _ _ (by rw [HX2.out]; simp)⟩
              case measure => simp [intOf]; omega
            | true =>
              go_wp2_with fail
              go_roundw
              case rel => exact ⟨c + 1, by omega, by go_num, hbel.setCell (by simp; omega) _, HA.out.setOther _ (by simp; omega), HR.out.setOther _ (by simp; omega), HM.out.setOther _ (by simp), HS.out.part (by omega) _ _ (by rw [HX2.out]; simp)⟩
              case measure => simp [intOf]; omega
        · have hcn : c = G.n := by omega
          have HN : Hid (c = G.n) := hcn
          clear hcn
          go_wp2_with fail
          go_roundw
          case rel => exact ⟨i + 1, by omega, by go_num, hbel, HA, HR, HM, HS.out.partOut (by rw [HF.out i, HN.out])⟩
          case measure => simp [intOf]; omega
    · have hkn : i = G.n := by omega
      have HK : Hid (i = G.n) := hkn
      clear hkn
      go_wp2_with (first
        | (refine load6 (by rfl) _ (by rfl) (w1.heap.size + 1) (by rfl) _ HS.out ?_)
        | (refine store6 (by rfl) _ _ (by rfl) (w.heap.size + 1 + 1) _ _ (by rfl) (by rfl) HR.out ?_; intro w5 hb5 hz5 hk5 HR5))
      refine bodyPost_ret (result6 Try.results103 _ _ (w.heap.size + 1 + 1) _ rfl HR5) rfl ⟨?_, hbel.trans (hb5.mono (by omega))⟩
      rw [HK.out]

end Go.Proofs.Ytkjnhhbibaimfaa
