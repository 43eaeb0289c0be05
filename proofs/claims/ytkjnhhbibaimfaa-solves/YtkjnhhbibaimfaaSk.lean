import Derived.Test.YtkjnhhbibaimfaaSj
namespace Go.Proofs.Ytkjnhhbibaimfaa
open Go.RowKit Fw
set_option linter.unusedVariables false

set_option maxRecDepth 100000 in
set_option maxHeartbeats 4000000 in
theorem someX_is (gb : Nat) (G : Gph) (ok : G.ok) (mk : Nat → ByteArray) (S T : Nat → Bool) (f : ByteArray) (w : World) (hf : f.size ≤ 1000) (HG : Hid (Gm w gb G mk)) :
    Calls Try.prog 83 #[.pointer (some ⟨gb, 0, none⟩), .int .u8 88, .agg (six S), .agg (six T), .string f] w fun e w' => e = .returned (.agg (six (upto G.n (someB G (fsOf f) 88 S T)))) ∧ Below w.heap.size w w' := by
  have hgl := HG.out.lt
  have HOK : Hid G.ok := ok
  clear ok
  have HA0 : Hid (Arr (((w.alloc (.cells (six S) 111)).alloc (.cells (six T) 111)).alloc (.cells (six fun _ => false) 111)) w.heap.size 6 S) := ((arr_new w S 111).alloc _).alloc _
  have HT0 : Hid (Arr (((w.alloc (.cells (six S) 111)).alloc (.cells (six T) 111)).alloc (.cells (six fun _ => false) 111)) (w.heap.size + 1) 6 T) := (arr_at _ _ 111 _ (by simp)).alloc _
  have HR0 : Hid (Arr (((w.alloc (.cells (six S) 111)).alloc (.cells (six T) 111)).alloc (.cells (six fun _ => false) 111)) (w.heap.size + 1 + 1) 6 (fun _ => false)) := arr_at _ _ 111 _ (by simp)
  have hb0 := below3 w (.cells (six S) 111) (.cells (six T) 111) (.cells (six fun _ => false) 111)
  have HG0 : Hid (Gm _ gb G mk) := HG.out.below hb0 hgl
  have HFU := fun w' (h : Hid (Gm w' gb G mk)) => fullB_of gb G mk w' h
  have HST := fun w' (h : Hid (Gm w' gb G mk)) => stays_is gb G HOK.out mk (fullB G) f w' hf h
  have HU : Hid (∀ i, someB G (fsOf f) 88 S T i = anyU (fun j => G.e i j && S j && upto G.n (liveB G (fsOf f)) j) G.n) := by
    intro i
    rw [anyU_anyN, anyN_congr (q := fun j => G.e i j && S j && liveB G (fsOf f) j) (fun j hj => by rw [upto_lt hj])]
    rfl
  obtain ⟨F, hF⟩ : ∃ F, F = someB G (fsOf f) 88 S T := ⟨_, rfl⟩
  rw [← hF] at HU
  rw [← hF]
  clear hF
  have HL : staysB G (fsOf f) (fullB G) = liveB G (fsOf f) := rfl
  rw [HL] at HST
  clear HL
  obtain ⟨L, hL⟩ : ∃ L, L = upto G.n (liveB G (fsOf f)) := ⟨_, rfl⟩
  rw [← hL] at HST HU
  clear hL
  go_enter Try.func83, Try.ntmps83
  go_wp2_with (first
    | (go_at_call 102; refine (HFU _ HG0).mono ?_; rintro e w1 ⟨rfl, hb1⟩)
    | (go_at_call 101; refine (HST _ (HG0.out.below hb1 HG0.out.lt)).mono ?_; rintro e w2 ⟨rfl, hb2⟩)
    | (refine store6 (by rfl) _ _ (by rfl) w2.heap.size (fun _ => false) L (by rfl) (by rfl) (arr_at w2 (fun _ => false) 111 _ rfl) ?_; intro w3 hb3 hz3 hk3 HL3))
  have hb02 := Below.to hb1 hb2
  have hb23 : Below w2.heap.size w2 w3 := ((Below.refl _ _).alloc (Nat.le_refl _) _).trans hb3
  have hb03 := Below.to hb02 hb23
  have HA3 : Hid (Arr w3 w.heap.size 6 S) := HA0.out.below hb03 HA0.out.lt
  have HT3 : Hid (Arr w3 (w.heap.size + 1) 6 T) := HT0.out.below hb03 HT0.out.lt
  have HR3 : Hid (Arr w3 (w.heap.size + 1 + 1) 6 (fun _ => false)) := HR0.out.below hb03 HR0.out.lt
  have hbel : Below w.heap.size w w3 := Below.to hb0 hb03
  have HLL : Hid (Arr w3 w2.heap.size 6 L) := HL3
  have q1 : w.heap.size + 1 + 1 < w2.heap.size := (HR0.out.below hb02 HR0.out.lt).lt
  clear HL3 HA0 HT0 HR0 HG0 hb0 hb1 hb2 hb3 hk3 hb02 hb23 hb03
  have q2 : w3.heap.size = w2.heap.size + 1 := by rw [hz3]; simp
  clear hz3
  have hg6 := HG.out.n6
  have q3 : w2.heap.size < w3.heap.size := HLL.out.lt
  go_loopw [13] (fun q wr => ∃ i : Nat, i ≤ G.n ∧ q = .int .i64 i ∧ Below w.heap.size w wr ∧ Hid (Arr wr w.heap.size 6 S) ∧ Hid (Arr wr (w.heap.size + 1 + 1) 6 (fun _ => false)) ∧ Hid (Arr wr w2.heap.size 6 L) ∧ Hid (Arr wr (w2.heap.size + 1) 6 (upto i F))) (fun q _ => G.n - (intOf q).toNat)
  case atStart =>
    refine ⟨0, by omega, rfl, Below.to hbel ((Below.refl _ _).alloc (Nat.le_refl _) _), HA3.out.alloc _, HR3.out.alloc _, HLL.out.alloc _, ?_⟩
    show Arr _ _ _ _
    rw [upto_zero]
    exact arr_at _ (fun _ => false) 111 _ q2
  case round =>
    clear HA3 HT3 HR3 HLL hbel
    obtain ⟨i, hi, rfl, hbel, HA, HR, HM, HS⟩ := hrel
    have hn := (HG.out.below hbel hgl).cn
    by_cases hlt : i < G.n
    · have i0 : (0 : Int) ≤ (i : Int) := by omega
      have i1 : (i : Int) < 6 := by omega
      go_wp2_with fail
      clear hn
      go_loopw [14] (fun q wr => ∃ c : Nat, c ≤ G.n ∧ q = .int .i64 c ∧ Below w.heap.size w wr ∧ Hid (Arr wr w.heap.size 6 S) ∧ Hid (Arr wr (w.heap.size + 1 + 1) 6 (fun _ => false)) ∧ Hid (Arr wr w2.heap.size 6 L) ∧ Hid (Arr wr (w2.heap.size + 1) 6 (part i F (anyU (fun j => G.e i j && S j && L j) c)))) (fun q _ => G.n - (intOf q).toNat)
      case atStart => exact ⟨0, by omega, rfl, hbel, HA, HR, HM, HS.out.partIn⟩
      case round =>
        clear hbel HA HR HM HS
        obtain ⟨c, hc, rfl, hbel, HA, HR, HM, HS⟩ := hrel
        have HGr : Hid (Gm _ gb G mk) := HG.out.below hbel hgl
        have hn := HGr.out.cn
        by_cases hcl : c < G.n
        · have ca := HA.out.c c (by omega)
          have cm := HM.out.c c (by omega)
          have ce := HGr.out.ce i c (by omega) (by omega)
          have zs := HS.out.z i (by omega)
          have cs := HS.out.c i (by omega)
          rw [part_here] at cs
          have c0 : (0 : Int) ≤ (c : Int) := by omega
          have c1 : (c : Int) < 6 := by omega
          have HX := anyU_succ (fun j => G.e i j && S j && L j) c
          obtain ⟨x, hx⟩ : ∃ x, x = G.e i c := ⟨_, rfl⟩
          obtain ⟨y, hy⟩ : ∃ y, y = S c := ⟨_, rfl⟩
          obtain ⟨z, hz⟩ : ∃ z, z = L c := ⟨_, rfl⟩
          obtain ⟨b, hb⟩ : ∃ b, b = anyU (fun j => G.e i j && S j && L j) c := ⟨_, rfl⟩
          rw [← hx] at ce
          rw [← hy] at ca
          rw [← hz] at cm
          rw [← hb] at cs
          have HX2 : Hid (anyU (fun j => G.e i j && S j && L j) (c + 1) = (b || (x && y && z))) := by
            show _ = _
            rw [HX, ← hb, ← hx, ← hy, ← hz]
          clear HX hx hy hz hb
          cases b with
          | true =>
            go_wp2_with fail
            go_roundw
            case rel => exact ⟨c + 1, by omega, by go_num, hbel.setCell (by simp; omega) _, HA.out.setOther _ (by simp; omega), HR.out.setOther _ (by simp; omega), HM.out.setOther _ (by simp), HS.out.part (by omega) _ _ (by rw [HX2.out]; simp)⟩
            case measure => simp [intOf]; omega
          | false =>
            cases x with
            | false =>
              go_wp2_with fail
              go_roundw
              case rel => exact ⟨c + 1, by omega, by go_num, hbel.setCell (by simp; omega) _, HA.out.setOther _ (by simp; omega), HR.out.setOther _ (by simp; omega), HM.out.setOther _ (by simp), HS.out.part (by omega) _ _ (by rw [HX2.out]; simp)⟩
              case measure => simp [intOf]; omega
            | true =>
              cases y with
              | false =>
                go_wp2_with fail
                go_roundw
                case rel => exact ⟨c + 1, by omega, by go_num, hbel.setCell (by simp; omega) _, HA.out.setOther _ (by simp; omega), HR.out.setOther _ (by simp; omega), HM.out.setOther _ (by simp), HS.out.part (by omega) _ _ (by rw [HX2.out]; simp)⟩
                case measure => simp [intOf]; omega
              | true =>
                go_wp2_with fail
                go_roundw
                case rel => exact ⟨c + 1, by omega, by go_num, hbel.setCell (by simp; omega) _, HA.out.setOther _ (by simp; omega), HR.out.setOther _ (by simp; omega), HM.out.setOther _ (by simp), HS.out.part (by omega) _ _ (by rw [HX2.out]; simp)⟩
                case measure => simp [intOf]; omega
        · have hcn : c = G.n := by omega
          have HN : Hid (c = G.n) := hcn
          clear hcn
          go_wp2_with fail
          go_roundw
          case rel => exact ⟨i + 1, by omega, by go_num, hbel, HA, HR, HM, HS.out.partOut (by rw [HU.out i, HN.out])⟩
          case measure => simp [intOf]; omega
    · have hkn : i = G.n := by omega
      have HK : Hid (i = G.n) := hkn
      clear hkn
      go_wp2_with (first
        | (refine load6 (by rfl) _ (by rfl) (w2.heap.size + 1) (by rfl) _ HS.out ?_)
        | (refine store6 (by rfl) _ _ (by rfl) (w.heap.size + 1 + 1) _ _ (by rfl) (by rfl) HR.out ?_; intro w5 hb5 hz5 hk5 HR5))
      refine bodyPost_ret (result6 Try.results83 _ _ (w.heap.size + 1 + 1) _ rfl HR5) rfl ⟨?_, hbel.trans (hb5.mono (by omega))⟩
      rw [HK.out]

end Go.Proofs.Ytkjnhhbibaimfaa
