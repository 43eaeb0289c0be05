import Derived.Test.YtkjnhhbibaimfaaSd
namespace Go.Proofs.Ytkjnhhbibaimfaa
open Go.RowKit Fw
set_option linter.unusedVariables false

theorem fw_zero_no {e : Nat → Nat → Bool} {S : Nat → Bool} {k l : Nat} (h : S k = false) : fw e S 0 k l = false := by simp [fw, h]
theorem fw_zero_yes {e : Nat → Nat → Bool} {S : Nat → Bool} {k l : Nat} (h : S k = true) : fw e S 0 k l = e k l := by simp [fw, h]
theorem mat_step {w : World} {B : Nat} {done todo : Nat → Nat → Bool} {k l : Nat} (h : Mat w B (half done todo k l)) (hk : k < 6) (hl : l < 6) {v : Bool} (hv : v = done k l) : Mat (w.setCell ⟨B, k * 6 + l, none⟩ (.bool v)) B (half done todo k (l + 1)) := by
  rw [← half_step, ← hv]
  exact h.set k l v hk hl
theorem half_here {done todo : Nat → Nat → Bool} {k l : Nat} : half done todo k l k l = todo k l := by
  unfold half
  rw [if_neg (by omega)]
/-- a cell that the round does not turn -/
theorem half_same {done todo : Nat → Nat → Bool} {k l i j : Nat} (h : done i j = todo i j) : half done todo k l i j = todo i j := by
  unfold half
  split
  · exact h
  · rfl

set_option maxRecDepth 100000 in
set_option maxHeartbeats 4000000 in
theorem web_is (gb : Nat) (G : Gph) (ok : G.ok) (mk : Nat → ByteArray) (S : Nat → Bool) (w : World) (HG : Hid (Gm w gb G mk)) :
    Calls Try.prog 114 #[.pointer (some ⟨gb, 0, none⟩), .agg (six S)] w fun e w' => e = .returned (.agg (bools 36 (flat6 (fw G.e S G.n))).toArray) ∧ Below w.heap.size w w' := by
  have hg6 := HG.out.n6
  have hgl := HG.out.lt
  have HOK : Hid G.ok := ok
  clear ok
  have e1 : w.heap.size ≠ w.heap.size + 1 + 1 := by omega
  have e2 : w.heap.size + 1 ≠ w.heap.size + 1 + 1 := by omega
  have e3 : gb ≠ w.heap.size + 1 + 1 := by omega
  go_enter Try.func114, Try.ntmps114
  go_wp2_with fail
  go_loopw [6] (fun q wr => ∃ k : Nat, k ≤ G.n ∧ q = .int .i64 k ∧ Below w.heap.size w wr ∧ Hid (Arr wr w.heap.size 6 S) ∧ Hid (Mat wr (w.heap.size + 1) (fun _ _ => false)) ∧ Hid (Mat wr (w.heap.size + 1 + 1) (half (fw G.e S 0) (fun _ _ => false) k 0))) (fun q _ => G.n - (intOf q).toNat)
  case atStart =>
    refine ⟨0, by omega, rfl, below3 w _ _ _, ((arr_new w S 111).alloc _).alloc _, (mat_new (w.alloc _) 113 _ (by simp)).alloc _, ?_⟩
    exact (mat_new _ 113 _ (by simp)).congr fun i j _ _ => (half_none (todo := fun _ _ => false) i j).symm
  case round =>
    obtain ⟨k, hk, rfl, hbel, HA, HR, HM⟩ := hrel
    have hn := (HG.out.below hbel hgl).cn
    by_cases hlt : k < G.n
    · go_wp2_with fail
      clear hn
      go_loopw [7] (fun q wr => ∃ l : Nat, l ≤ G.n ∧ q = .int .i64 l ∧ Below w.heap.size w wr ∧ Hid (Arr wr w.heap.size 6 S) ∧ Hid (Mat wr (w.heap.size + 1) (fun _ _ => false)) ∧ Hid (Mat wr (w.heap.size + 1 + 1) (half (fw G.e S 0) (fun _ _ => false) k l))) (fun q _ => G.n - (intOf q).toNat)
      case atStart => exact ⟨0, by omega, rfl, hbel, HA, HR, HM⟩
      case round =>
        clear hbel HA HR HM
        obtain ⟨l, hl, rfl, hbel, HA, HR, HM⟩ := hrel
        have HGr : Hid (Gm _ gb G mk) := HG.out.below hbel hgl
        have hn := HGr.out.cn
        by_cases hll : l < G.n
        · have ca := HA.out.c k (by omega)
          have ce := HGr.out.ce k l (by omega) (by omega)
          have cm := HM.out.c k l (by omega) (by omega)
          have zm := HM.out.z (k * 6 + l) (by omega)
          have k0 : (0 : Int) ≤ (k : Int) := by omega
          have k1 : (k : Int) < 6 := by omega
          have l0 : (0 : Int) ≤ (l : Int) := by omega
          have l1 : (l : Int) < 6 := by omega
          cases hS : S k with
          | true =>
            rw [hS] at ca
            have HS : Hid (S k = true) := hS
            clear hS
            go_wp2_with fail
            go_region
            all_goals
              go_wp2
              go_roundw
              case rel => exact ⟨l + 1, by omega, by go_num, (hbel.setCell (by simp; omega) _).drew, (HA.out.setOther _ (Ne.symm e1)).drew, (HR.out.setOther _ (Ne.symm e2)).drew, (mat_step HM.out (by omega) (by omega) (fw_zero_yes HS.out).symm).drew⟩
              case measure => simp [intOf]; omega
          | false =>
            rw [hS] at ca
            have HS : Hid (S k = false) := hS
            clear hS
            go_wp2_with fail
            go_region
            all_goals
              go_wp2
              go_roundw
              case rel => exact ⟨l + 1, by omega, by go_num, (hbel.setCell (by simp; omega) _).drew, (HA.out.setOther _ (Ne.symm e1)).drew, (HR.out.setOther _ (Ne.symm e2)).drew, (mat_step HM.out (by omega) (by omega) (fw_zero_no HS.out).symm).drew⟩
              case measure => simp [intOf]; omega
        · go_wp2_with fail
          go_roundw
          case rel => exact ⟨k + 1, by omega, by go_num, hbel, HA, HR, HM.out.congr fun i j _ _ => half_row (n := G.n) (by omega) (fun j hj => fw_out HOK.out 0 k j (.inr hj)) i j⟩
          case measure => simp [intOf]; omega
    · have HM0 : Hid (Mat _ (w.heap.size + 1 + 1) (fw G.e S 0)) := HM.out.congr fun i j _ _ => half_all (n := G.n) (by omega) (fun i j hi => fw_out HOK.out 0 i j (.inl hi)) i j
      clear HM
      go_wp2_with fail
      clear hn HA
      go_loopw [8] (fun q wr => ∃ c : Nat, c ≤ G.n ∧ q = .int .i64 c ∧ Below w.heap.size w wr ∧ Hid (Mat wr (w.heap.size + 1) (fun _ _ => false)) ∧ Hid (Mat wr (w.heap.size + 1 + 1) (fw G.e S c))) (fun q _ => G.n - (intOf q).toNat)
      case atStart => exact ⟨0, by omega, rfl, hbel, HR, HM0⟩
      case round =>
        clear hbel HR HM0
        obtain ⟨c, hc, rfl, hbel, HR, HM⟩ := hrel
        have hn := (HG.out.below hbel hgl).cn
        by_cases hcl : c < G.n
        · go_wp2_with fail
          clear hn
          go_loopw [9] (fun q wr => ∃ i : Nat, i ≤ G.n ∧ q = .int .i64 i ∧ Below w.heap.size w wr ∧ Hid (Mat wr (w.heap.size + 1) (fun _ _ => false)) ∧ Hid (Mat wr (w.heap.size + 1 + 1) (half (fw G.e S (c + 1)) (fw G.e S c) i 0))) (fun q _ => G.n - (intOf q).toNat)
          case atStart => exact ⟨0, by omega, rfl, hbel, HR, HM.out.congr fun i j _ _ => (half_none i j).symm⟩
          case round =>
            clear hbel HR HM
            obtain ⟨i, hi, rfl, hbel, HR, HM⟩ := hrel
            have hn := (HG.out.below hbel hgl).cn
            by_cases hil : i < G.n
            · go_wp2_with fail
              clear hn
              go_loopw [10] (fun q wr => ∃ j : Nat, j ≤ G.n ∧ q = .int .i64 j ∧ Below w.heap.size w wr ∧ Hid (Mat wr (w.heap.size + 1) (fun _ _ => false)) ∧ Hid (Mat wr (w.heap.size + 1 + 1) (half (fw G.e S (c + 1)) (fw G.e S c) i j))) (fun q _ => G.n - (intOf q).toNat)
              case atStart => exact ⟨0, by omega, rfl, hbel, HR, HM⟩
              case round =>
                clear hbel HR HM
                obtain ⟨j, hj, rfl, hbel, HR, HM⟩ := hrel
                have hn := (HG.out.below hbel hgl).cn
                by_cases hjl : j < G.n
                · have cij := HM.out.c i j (by omega) (by omega)
                  have cic := HM.out.c i c (by omega) (by omega)
                  have ccj := HM.out.c c j (by omega) (by omega)
                  rw [half_here] at cij
                  rw [half_same (fw_col G.e S c i)] at cic
                  rw [half_same (fw_row G.e S c j)] at ccj
                  have zm := HM.out.z (i * 6 + j) (by omega)
                  have i0 : (0 : Int) ≤ (i : Int) := by omega
                  have i1 : (i : Int) < 6 := by omega
                  have j0 : (0 : Int) ≤ (j : Int) := by omega
                  have j1 : (j : Int) < 6 := by omega
                  have c0 : (0 : Int) ≤ (c : Int) := by omega
                  have c1 : (c : Int) < 6 := by omega
                  obtain ⟨x, hx⟩ : ∃ x, x = fw G.e S c i j := ⟨_, rfl⟩
                  obtain ⟨y, hy⟩ : ∃ y, y = fw G.e S c i c := ⟨_, rfl⟩
                  obtain ⟨z, hz⟩ : ∃ z, z = fw G.e S c c j := ⟨_, rfl⟩
                  have HV : Hid (fw G.e S (c + 1) i j = (x || (y && z))) := by show _ = _; rw [fw, ← hx, ← hy, ← hz]
                  rw [← hx] at cij
                  rw [← hy] at cic
                  rw [← hz] at ccj
                  clear hx hy hz
                  cases x with
                  | true =>
                    go_wp2_with fail
                    go_region
                    all_goals
                      go_wp2
                      go_roundw
                      case rel => exact ⟨j + 1, by omega, by go_num, (hbel.setCell (by simp; omega) _).drew, (HR.out.setOther _ (Ne.symm e2)).drew, (mat_step HM.out (by omega) (by omega) (by rw [HV.out]; rfl)).drew⟩
                      case measure => simp [intOf]; omega
                  | false =>
                    cases y with
                    | true =>
                      go_wp2_with fail
                      go_region
                      all_goals
                        go_wp2
                        go_roundw
                        case rel => exact ⟨j + 1, by omega, by go_num, (hbel.setCell (by simp; omega) _).drew, (HR.out.setOther _ (Ne.symm e2)).drew, (mat_step HM.out (by omega) (by omega) (by rw [HV.out]; simp)).drew⟩
                        case measure => simp [intOf]; omega
                    | false =>
                      go_wp2_with fail
                      go_region
                      all_goals
                        go_wp2
                        go_roundw
                        case rel => exact ⟨j + 1, by omega, by go_num, (hbel.setCell (by simp; omega) _).drew, (HR.out.setOther _ (Ne.symm e2)).drew, (mat_step HM.out (by omega) (by omega) (by rw [HV.out]; rfl)).drew⟩
                        case measure => simp [intOf]; omega
                · go_wp2_with fail
                  go_roundw
                  case rel => exact ⟨i + 1, by omega, by go_num, hbel, HR, HM.out.congr fun a b _ _ => half_row (n := G.n) (by omega) (fun b hb => by rw [fw_out HOK.out (c + 1) i b (.inr hb), fw_out HOK.out c i b (.inr hb)]) a b⟩
                  case measure => simp [intOf]; omega
            · go_wp2_with fail
              go_roundw
              case rel => exact ⟨c + 1, by omega, by go_num, hbel, HR, HM.out.congr fun a b _ _ => half_all (n := G.n) (by omega) (fun a b ha => by rw [fw_out HOK.out (c + 1) a b (.inl ha), fw_out HOK.out c a b (.inl ha)]) a b⟩
              case measure => simp [intOf]; omega
        · have hcn : c = G.n := by omega
          have HK : Hid (c = G.n) := hcn
          clear hcn
          go_wp2_with (first | (refine loadT 113 36 Try.size113 Try.row113 (by rfl) _ (by rfl) (w.heap.size + 1 + 1) (by rfl) _ HM.out.range (bools_len _ _) ?_) | (refine storeT 113 36 Try.size113 (by rfl) _ _ (by rfl) (w.heap.size + 1) _ (by rfl) (by rfl) HR.out.there (bools_size _ _) (bools_one _ _) ?_; intro w5 hb5 hz5 hk5 hr5))
          refine bodyPost_ret (v := .agg (bools 36 (flat6 (fw G.e S c))).toArray) (resultT Try.results114 Try.size113 Try.row113 _ _ (w.heap.size + 1) _ rfl hr5 (by simp [bools_len])) rfl ⟨?_, hbel.trans (hb5.mono (by omega))⟩
          rw [HK.out]

end Go.Proofs.Ytkjnhhbibaimfaa
