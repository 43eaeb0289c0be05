import Derived.Test.YtkjnhhbibaimfaaPc
namespace Go.Proofs.Ytkjnhhbibaimfaa
open Go.RowKit Fw
set_option linter.unusedVariables false

/-- a table with what goes by way of m -/
def join (M : Nat → Nat → Bool) (m : Nat) : Nat → Nat → Bool := fun a b => M a b || (M a m && M m b)
theorem join_col (M : Nat → Nat → Bool) (m a : Nat) : join M m a m = M a m := by unfold join; cases M a m <;> simp
theorem join_row (M : Nat → Nat → Bool) (m b : Nat) : join M m m b = M m b := by unfold join; cases M m b <;> simp

set_option maxRecDepth 100000 in
set_option maxHeartbeats 4000000 in
theorem joinedP_is (M : Nat → Nat → Bool) (m : Nat) (hm : m < 6) (w : World) :
    Calls Try.prog 110 #[.agg (bools 36 (flat6 M)).toArray, .int .i64 (m : Int)] w fun e w' => e = .returned (.agg (bools 36 (flat6 (join M m))).toArray) ∧ Below w.heap.size w w' := by
  have HB0 := mat_box w M 145
  obtain ⟨C, hC⟩ : ∃ C, C = (bools 36 (flat6 M)).toArray := ⟨_, rfl⟩
  rw [← hC]
  rw [← hC] at HB0
  clear hC
  have HB : Hid (Mat (w.alloc (.cells C 145)) w.heap.size M) := HB0
  clear HB0
  have m0 : (0 : Int) ≤ (m : Int) := by omega
  have m1 : (m : Int) < 6 := by omega
  have e1 : w.heap.size ≠ w.heap.size + 1 := by omega
  go_enter Try.func110, Try.ntmps110
  go_wp2_with fail
  go_loopw [5] (fun q wr => ∃ k : Nat, k ≤ 6 ∧ q = .int .i64 k ∧ Below w.heap.size w wr ∧ Hid (Mat wr w.heap.size (half (join M m) M k 0)) ∧ Hid (Mat wr (w.heap.size + 1) (fun _ _ => false))) (fun q _ => 6 - (intOf q).toNat)
  case atStart =>
    exact ⟨0, by omega, rfl, below2S w _ _, (HB.out.alloc _).congr fun i j _ _ => (half_none i j).symm, mat_new (w.alloc _) 145 _ (by simp)⟩
  case round =>
    clear HB
    obtain ⟨k, hk, rfl, hbel, HM, HR⟩ := hrel
    by_cases hlt : k < 6
    · go_wp2_with fail
      go_loopw [6] (fun q wr => ∃ l : Nat, l ≤ 6 ∧ q = .int .i64 l ∧ Below w.heap.size w wr ∧ Hid (Mat wr w.heap.size (half (join M m) M k l)) ∧ Hid (Mat wr (w.heap.size + 1) (fun _ _ => false))) (fun q _ => 6 - (intOf q).toNat)
      case atStart => exact ⟨0, by omega, rfl, hbel, HM, HR⟩
      case round =>
        clear hbel HM HR
        obtain ⟨l, hl, rfl, hbel, HM, HR⟩ := hrel
        by_cases hll : l < 6
        · have ckl := HM.out.c k l (by omega) (by omega)
          have ckm := HM.out.c k m (by omega) (by omega)
          have cml := HM.out.c m l (by omega) (by omega)
          rw [half_here] at ckl
          rw [half_same (join_col M m k)] at ckm
          rw [half_same (join_row M m l)] at cml
          have zm := HM.out.z (k * 6 + l) (by omega)
          have k0 : (0 : Int) ≤ (k : Int) := by omega
          have k1 : (k : Int) < 6 := by omega
          have l0 : (0 : Int) ≤ (l : Int) := by omega
          have l1 : (l : Int) < 6 := by omega
          obtain ⟨x, hx⟩ : ∃ x, x = M k l := ⟨_, rfl⟩
          obtain ⟨y, hy⟩ : ∃ y, y = M k m := ⟨_, rfl⟩
          obtain ⟨z, hz⟩ : ∃ z, z = M m l := ⟨_, rfl⟩
          have HV : Hid (join M m k l = (x || (y && z))) := by show _ = _; rw [join, ← hx, ← hy, ← hz]
          have HX : Hid (x = M k l) := hx
          rw [← hx] at ckl
          rw [← hy] at ckm
          rw [← hz] at cml
          clear hx hy hz
          have HSAME : Hid (join M m k l = x → ∀ W, Mat W w.heap.size (half (join M m) M k l) → Mat W w.heap.size (half (join M m) M k (l + 1))) := by
            intro hj W hW
            rw [← half_step]
            refine hW.congr fun i j _ _ => ?_
            by_cases e : i = k ∧ j = l
            · obtain ⟨rfl, rfl⟩ := e
              rw [if_pos ⟨rfl, rfl⟩, half_here, hj]
              exact HX.out.symm
            · rw [if_neg e]
          cases y with
          | false =>
            go_wp2_with fail
            go_roundw
            case rel => exact ⟨l + 1, by omega, by go_num, hbel, HSAME.out (by rw [HV.out]; simp) _ HM.out, HR⟩
            case measure => simp [intOf]; omega
          | true =>
            cases z with
            | false =>
              go_wp2_with fail
              go_roundw
              case rel => exact ⟨l + 1, by omega, by go_num, hbel, HSAME.out (by rw [HV.out]; simp) _ HM.out, HR⟩
              case measure => simp [intOf]; omega
            | true =>
              go_wp2_with fail
              go_roundw
              case rel => exact ⟨l + 1, by omega, by go_num, hbel.setCell (by simp) _, mat_step HM.out (by omega) (by omega) (by rw [HV.out]; simp), HR.out.setOther _ e1⟩
              case measure => simp [intOf]; omega
        · go_wp2_with fail
          go_roundw
          case rel => exact ⟨k + 1, by omega, by go_num, hbel, HM.out.congr fun i j hi hj => by
            unfold half
            by_cases h1 : i < k
            · rw [if_pos (.inl h1), if_pos (by omega)]
            · by_cases h2 : i = k
              · rw [if_pos (by omega), if_pos (by omega)]
              · rw [if_neg (by omega), if_neg (by omega)], HR⟩
          case measure => simp [intOf]; omega
    · obtain rfl : k = 6 := by omega
      have HM6 : Hid (Mat _ w.heap.size (join M m)) := HM.out.congr fun i j hi hj => by
        unfold half
        rw [if_pos (.inl hi)]
      clear HM
      go_wp2_with (first | (refine loadW (by rfl) _ (by rfl) w.heap.size (by rfl) _ HM6.out ?_) | (refine storeW (by rfl) _ _ (by rfl) (w.heap.size + 1) _ _ (by rfl) (by rfl) HR.out ?_; intro w5 hb5 hz5 hk5 HR5))
      exact bodyPost_ret (resultW Try.results110 _ _ (w.heap.size + 1) _ rfl HR5) rfl ⟨rfl, hbel.trans (hb5.mono (by omega))⟩

set_option maxRecDepth 100000 in
set_option maxHeartbeats 4000000 in
theorem stepsP_is (b o : Nat) (G : Gph) (K : Nat → ByteArray) (f : ByteArray) (B S : Nat → Bool) (w : World) (HG : Hid (Wy w b o G K f B)) :
    Calls Try.prog 89 #[.pointer (some ⟨b, o, none⟩), .agg (six S)] w fun e w' => e = .returned (.agg (bools 36 (flat6 (stp G S 6))).toArray) ∧ Below w.heap.size w w' := by
  have hgl := HG.out.lt
  have e1 : w.heap.size ≠ w.heap.size + 1 + 1 := by omega
  have e2 : w.heap.size + 1 ≠ w.heap.size + 1 + 1 := by omega
  have e3 : b ≠ w.heap.size + 1 + 1 := by omega
  go_enter Try.func89, Try.ntmps89
  go_wp2_with fail
  go_loopw [6] (fun q wr => ∃ k : Nat, k ≤ 6 ∧ q = .int .i64 k ∧ Below w.heap.size w wr ∧ Hid (Arr wr w.heap.size 6 S) ∧ Hid (Mat wr (w.heap.size + 1) (fun _ _ => false)) ∧ Hid (Mat wr (w.heap.size + 1 + 1) (half (stp G S 0) (fun _ _ => false) k 0))) (fun q _ => 6 - (intOf q).toNat)
  case atStart =>
    refine ⟨0, by omega, rfl, below3 w _ _ _, ((arr_new w S 59).alloc _).alloc _, (mat_new (w.alloc _) 145 _ (by simp)).alloc _, ?_⟩
    exact (mat_new _ 145 _ (by simp)).congr fun i j _ _ => (half_none (todo := fun _ _ => false) i j).symm
  case round =>
    obtain ⟨k, hk, rfl, hbel, HA, HR, HM⟩ := hrel
    by_cases hlt : k < 6
    · go_wp2_with fail
      go_loopw [7] (fun q wr => ∃ l : Nat, l ≤ 6 ∧ q = .int .i64 l ∧ Below w.heap.size w wr ∧ Hid (Arr wr w.heap.size 6 S) ∧ Hid (Mat wr (w.heap.size + 1) (fun _ _ => false)) ∧ Hid (Mat wr (w.heap.size + 1 + 1) (half (stp G S 0) (fun _ _ => false) k l))) (fun q _ => 6 - (intOf q).toNat)
      case atStart => exact ⟨0, by omega, rfl, hbel, HA, HR, HM⟩
      case round =>
        clear hbel HA HR HM
        obtain ⟨l, hl, rfl, hbel, HA, HR, HM⟩ := hrel
        have HGr : Hid (Wy _ b o G K f B) := HG.out.below hbel hgl
        by_cases hll : l < 6
        · have ck := HA.out.c k (by omega)
          have cl := HA.out.c l (by omega)
          have ce := HGr.out.ce k l (by omega) (by omega)
          have cm := HM.out.c k l (by omega) (by omega)
          have zm := HM.out.z (k * 6 + l) (by omega)
          have k0 : (0 : Int) ≤ (k : Int) := by omega
          have k1 : (k : Int) < 6 := by omega
          have l0 : (0 : Int) ≤ (l : Int) := by omega
          have l1 : (l : Int) < 6 := by omega
          obtain ⟨x, hx⟩ : ∃ x, x = G.e k l := ⟨_, rfl⟩
          obtain ⟨y, hy⟩ : ∃ y, y = S k := ⟨_, rfl⟩
          obtain ⟨z, hz⟩ : ∃ z, z = S l := ⟨_, rfl⟩
          have HV : Hid (stp G S 0 k l = (x && y && z)) := by show _ = _; rw [stp, inE, ← hx, ← hy, ← hz]
          rw [← hx] at ce
          rw [← hy] at ck
          rw [← hz] at cl
          clear hx hy hz
          cases x with
          | false =>
            go_wp2_with fail
            go_region
            all_goals
              go_wp2
              go_roundw
              case rel => exact ⟨l + 1, by omega, by go_num, (hbel.setCell (by simp; omega) _).drew, (HA.out.setOther _ (Ne.symm e1)).drew, (HR.out.setOther _ (Ne.symm e2)).drew, (mat_step HM.out (by omega) (by omega) (by rw [HV.out]; simp)).drew⟩
              case measure => simp [intOf]; omega
          | true =>
            cases y with
            | false =>
              go_wp2_with fail
              go_region
              all_goals
                go_wp2
                go_roundw
                case rel => exact ⟨l + 1, by omega, by go_num, (hbel.setCell (by simp; omega) _).drew, (HA.out.setOther _ (Ne.symm e1)).drew, (HR.out.setOther _ (Ne.symm e2)).drew, (mat_step HM.out (by omega) (by omega) (by rw [HV.out]; simp)).drew⟩
                case measure => simp [intOf]; omega
            | true =>
              go_wp2_with fail
              go_region
              all_goals
                go_wp2
                go_roundw
                case rel => exact ⟨l + 1, by omega, by go_num, (hbel.setCell (by simp; omega) _).drew, (HA.out.setOther _ (Ne.symm e1)).drew, (HR.out.setOther _ (Ne.symm e2)).drew, (mat_step HM.out (by omega) (by omega) (by rw [HV.out]; simp)).drew⟩
                case measure => simp [intOf]; omega
        · go_wp2_with fail
          go_roundw
          case rel => exact ⟨k + 1, by omega, by go_num, hbel, HA, HR, HM.out.congr fun i j hi hj => by
            unfold half
            by_cases h1 : i < k
            · rw [if_pos (.inl h1), if_pos (by omega)]
            · by_cases h2 : i = k
              · rw [if_pos (by omega), if_pos (by omega)]
              · rw [if_neg (by omega), if_neg (by omega)]⟩
          case measure => simp [intOf]; omega
    · have HM6 : Hid (Mat _ (w.heap.size + 1 + 1) (stp G S 0)) := HM.out.congr fun i j hi hj => by
        unfold half
        rw [if_pos (.inl (by omega))]
      clear HM
      go_wp2_with fail
      clear HA
      go_loopw [8] (fun q wr => ∃ c : Nat, c ≤ 6 ∧ q = .int .i64 c ∧ Below w.heap.size w wr ∧ Hid (Mat wr (w.heap.size + 1) (fun _ _ => false)) ∧ Hid (Mat wr (w.heap.size + 1 + 1) (stp G S c))) (fun q _ => 6 - (intOf q).toNat)
      case atStart => exact ⟨0, by omega, rfl, hbel, HR, HM6⟩
      case round =>
        clear hbel HR HM6
        obtain ⟨c, hc, rfl, hbel, HR, HM⟩ := hrel
        by_cases hcl : c < 6
        · have HJ := fun W => joinedP_is (stp G S c) c hcl W
          have HE : Hid (join (stp G S c) c = stp G S (c + 1)) := by show _ = _; funext x y; rfl
          obtain ⟨N, hN⟩ : ∃ N, N = join (stp G S c) c := ⟨_, rfl⟩
          rw [← hN] at HJ HE
          clear hN
          go_wp2_with (first
            | (refine loadW (by rfl) _ (by rfl) (w.heap.size + 1 + 1) (by rfl) _ HM.out ?_)
            | (go_at_call 110; refine (HJ _).mono ?_; rintro e w4 ⟨rfl, hb4⟩)
            | (refine storeW (by rfl) _ _ (by rfl) (w.heap.size + 1 + 1) _ _ (by rfl) (by rfl) (HM.out.below hb4 HM.out.lt) ?_; intro w5 hb5 hz5 hk5 HM5))
          have hm5 : Mat w5 (w.heap.size + 1) (fun _ _ => false) := (HR.out.below hb4 HR.out.lt).below hb5 (by omega)
          go_roundw
          case rel => exact ⟨c + 1, by omega, by go_num, (Below.to hbel hb4).trans (hb5.mono (by omega)), hm5, by show Mat _ _ _; rw [← HE.out]; exact HM5⟩
          case measure => simp [intOf]; omega
        · obtain rfl : c = 6 := by omega
          go_wp2_with (first | (refine loadW (by rfl) _ (by rfl) (w.heap.size + 1 + 1) (by rfl) _ HM.out ?_) | (refine storeW (by rfl) _ _ (by rfl) (w.heap.size + 1) _ _ (by rfl) (by rfl) HR.out ?_; intro w5 hb5 hz5 hk5 HR5))
          exact bodyPost_ret (resultW Try.results89 _ _ (w.heap.size + 1) _ rfl HR5) rfl ⟨rfl, hbel.trans (hb5.mono (by omega))⟩

end Go.Proofs.Ytkjnhhbibaimfaa
