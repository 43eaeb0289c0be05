import Derived.Test.YtkjnhhbibaimfaaPn
import Derived.Test.YtkjnhhbibaimfaaSv
namespace Go.Proofs.Ytkjnhhbibaimfaa
open Go.RowKit Fw
open Go.Deep (BT)
set_option linter.unusedVariables false

set_option maxRecDepth 100000 in
set_option maxHeartbeats 4000000 in
theorem answer_P (qb g n cap r : Nat) (G : Gph) (K : Nat → ByteArray) (f : ByteArray) (ns : List Nd) (hc : Clo ns) (hl : ns.length = n) (hn : n ≤ 1000) (hf : f.size ≤ 1000) (hr : r < n) (w : World) (HG : Hid (Wy w qb 1 G K f (begP G (fsOf f)))) (HN : Hid (Nr w g ns))
    (c55 : w.cell? ⟨qb, 55, none⟩ = some (.slice (some ⟨g, 0, none⟩) n cap)) (c56 : w.cell? ⟨qb, 56, none⟩ = some (.int .i64 (r : Int))) :
    Calls Try.prog 31 #[.pointer (some ⟨qb, 0, none⟩)] w fun e w' => e = .returned (.string (bs (bitsU (vals G (fsOf f) ns n r) G.n))) ∧ Below w.heap.size w w' := by
  have hgl := HG.out.lt
  have hn6 := HG.out.n6
  have c3 : w.cell? ⟨qb, 3, none⟩ = some (.int .i64 (G.n : Int)) := HG.out.cn
  have HHO := holdings_P qb 1 g n cap G K f ns hc hl hn hf w.drew HG.out.drew (show Nr _ _ _ from ⟨HN.out.lt, HN.out.c⟩)
  have HV : Hid (∀ W, Tab W w.heap.size n (vals G (fsOf f) ns n) → ∀ j, j < 6 → W.cell? ⟨w.heap.size, r * 6 + j, none⟩ = some (.bool (vals G (fsOf f) ns n r j))) := fun W h j hj => h.c r j hr hj
  obtain ⟨H, hH⟩ : ∃ H, H = vals G (fsOf f) ns n r := ⟨_, rfl⟩
  rw [← hH] at HV
  rw [← hH]
  clear hH hc hl
  have r0 : (0 : Int) ≤ (r : Int) := by omega
  have r1 : (r : Int) < (n : Int) := by omega
  go_enter Try.func31, Try.ntmps31
  go_wp2_with fail
  go_region_held3 (fun w' => w'.cell? ⟨qb, 55, none⟩ = some (.slice (some ⟨g, 0, none⟩) n cap)) (first | exact d55 | exact c55) (first
   | (go_at_call 48; refine HHO.mono ?_; rintro e w1 ⟨hb1, rfl, HT⟩
      have HT1 : Hid (Tab w1 w.heap.size n (vals G (fsOf f) ns n)) := HT
      clear HT
      have d55 := (hb1.cell (p := ⟨qb, 55, none⟩) hgl).trans c55
      have d3 := (hb1.cell (p := ⟨qb, 3, none⟩) hgl).trans c3
      have d56 := (hb1.cell (p := ⟨qb, 56, none⟩) hgl).trans c56
      have hv := HV.out w1 HT1.out
      have s0 : w1.cell? ⟨w.heap.size, r * 6, none⟩ = some (.bool (H 0)) := hv 0 (by omega)
      have s1 := hv 1 (by omega)
      have s2 := hv 2 (by omega)
      have s3 := hv 3 (by omega)
      have s4 := hv 4 (by omega)
      have s5 := hv 5 (by omega)
      clear hv))
  all_goals
    rename_i hHeld
    clear hHeld
    go_wp2_with fail
    generalize hW : w1.alloc (Obj.cells #[Value.bool (H 0), Value.bool (H 1), Value.bool (H 2), Value.bool (H 3), Value.bool (H 4), Value.bool (H 5)] 59) = W
    have HR : Hid (Arr W w1.heap.size 6 H) := by show Arr _ _ _ _; rw [← hW]; exact arr_new w1 H 59
    have hbW : Below w1.heap.size w1 W := by rw [← hW]; exact (Below.refl _ _).alloc (Nat.le_refl _) _
    have f3 : W.cell? ⟨qb, 3, none⟩ = some (.int .i64 (G.n : Int)) := (hbW.cell (p := ⟨qb, 3, none⟩) (Nat.lt_of_lt_of_le hgl hb1.size)).trans d3
    have hbe : Below w.heap.size w W := (show Below w.heap.size w w1 from Below.dr hb1).trans (hbW.mono hb1.size)
    clear hW s0 s1 s2 s3 s4 s5 d3 d55 d56 HT1 hbW
    go_loop [5, 6] (fun v q => ∃ k : Nat, k ≤ G.n ∧ v = .string (bs (bitsU H k)) ∧ q = .int .i64 k) (fun _ q => G.n - (intOf q).toNat)
    case atStart => exact ⟨0, by omega, rfl, rfl⟩
    case round =>
      obtain ⟨k, hk, rfl, rfl⟩ := hrel
      by_cases hlt : k < G.n
      · have k0 : (0 : Int) ≤ (k : Int) := by omega
        have k1 : (k : Int) < 6 := by omega
        have cr := HR.out.c k (by omega)
        have hl : (bs (bitsU H k)).size = k := by rw [bs_size, bitsU_len]
        have hl2 : (bs (bitsU H k)).size ≤ 6 := by omega
        have HB := bitsU_succ H k
        cases hx : H k with
        | true =>
          rw [hx] at cr HB
          have HB' : Hid (bs (bitsU H k) ++ (⟨#[49]⟩ : ByteArray) = bs (bitsU H (k + 1))) := by show _ = _; rw [HB, if_pos rfl]; exact bs_add _ [49]
          clear HB hx
          go_wp2_with fail
          go_round
          case rel => exact ⟨k + 1, by omega, by rw [HB'.out], by go_num⟩
          case measure => simp [intOf]; omega
        | false =>
          rw [hx] at cr HB
          have HB' : Hid (bs (bitsU H k) ++ (⟨#[48]⟩ : ByteArray) = bs (bitsU H (k + 1))) := by show _ = _; rw [HB, if_neg (by simp)]; exact bs_add _ [48]
          clear HB hx
          go_wp2_with fail
          go_round
          case rel => exact ⟨k + 1, by omega, by rw [HB'.out], by go_num⟩
          case measure => simp [intOf]; omega
      · have hkn : k = G.n := by omega
        have HK : Hid (k = G.n) := hkn
        clear hkn
        go_wp2_with fail
        go_ret
        exact ⟨by rw [← HK.out]; rfl, hbe⟩

end Go.Proofs.Ytkjnhhbibaimfaa
