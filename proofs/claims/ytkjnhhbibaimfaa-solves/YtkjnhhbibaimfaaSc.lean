import Derived.Test.YtkjnhhbibaimfaaSb
namespace Go.Proofs.Ytkjnhhbibaimfaa
open Go.RowKit Fw
set_option linter.unusedVariables false

theorem below2S (w : World) (o p : Obj) : Below w.heap.size w ((w.alloc o).alloc p) := ((Below.refl _ _).alloc (Nat.le_refl _) _).alloc (by simp) _
theorem below4 (w : World) (o p q r : Obj) : Below w.heap.size w ((((w.alloc o).alloc p).alloc q).alloc r) := (below3 w o p q).alloc (by simp; omega) _

set_option maxRecDepth 100000 in
set_option maxHeartbeats 1000000 in
theorem both_is (a b : Nat → Bool) (w : World) :
    Calls Try.prog 81 #[.agg (six a), .agg (six b)] w fun e w' => e = .returned (.agg (six fun j => a j && b j)) ∧ Below w.heap.size w w' := by
  go_enter Try.func81, Try.ntmps81
  go_wp2_with fail
  go_loopw [6] (fun q wr => ∃ k : Nat, k ≤ 6 ∧ q = .int .i64 k ∧ Below w.heap.size w wr ∧ Hid (Arr wr w.heap.size 6 a) ∧ Hid (Arr wr (w.heap.size + 1) 6 b) ∧ Hid (Arr wr (w.heap.size + 1 + 1) 6 (fun _ => false)) ∧ Hid (Arr wr (w.heap.size + 1 + 1 + 1) 6 (upto k fun j => a j && b j))) (fun q _ => 6 - (intOf q).toNat)
  case atStart =>
    refine ⟨0, by omega, rfl, below4 w _ _ _ _, (((arr_new w a 111).alloc _).alloc _).alloc _, ((arr_at (w.alloc _) b 111 _ (by simp)).alloc _).alloc _, (arr_at _ (fun _ => false) 111 _ (by simp)).alloc _, ?_⟩
    show Arr _ _ _ _
    rw [upto_zero]
    exact arr_at _ (fun _ => false) 111 _ (by simp)
  case round =>
    obtain ⟨k, hk, rfl, hbel, HA, HB, HR, HS⟩ := hrel
    have e1 : w.heap.size ≠ w.heap.size + 1 + 1 + 1 := by omega
    have e2 : w.heap.size + 1 ≠ w.heap.size + 1 + 1 + 1 := by omega
    have e3 : w.heap.size + 1 + 1 ≠ w.heap.size + 1 + 1 + 1 := by omega
    by_cases hlt : k < 6
    · have ca := HA.out.c k (by omega)
      have cb := HB.out.c k (by omega)
      have cs := HS.out.c k (by omega)
      have zs := HS.out.z k (by omega)
      have k0 : (0 : Int) ≤ (k : Int) := by omega
      have k1 : (k : Int) < 6 := by omega
      cases hak : a k with
      | true =>
        rw [hak] at ca
        have HK : Hid (a k = true) := hak
        clear hak
        go_wp2_with fail
        go_roundw
        case rel => exact ⟨k + 1, by omega, by go_num, hbel.setCell (by simp; omega) _, HA.out.setOther _ (Ne.symm e1), HB.out.setOther _ (Ne.symm e2), HR.out.setOther _ (Ne.symm e3), HS.out.next (by omega) _ (by rw [HK.out, Bool.true_and])⟩
        case measure => simp [intOf]; omega
      | false =>
        rw [hak] at ca
        have HK : Hid (a k = false) := hak
        clear hak
        go_wp2_with fail
        go_roundw
        case rel => exact ⟨k + 1, by omega, by go_num, hbel.setCell (by simp; omega) _, HA.out.setOther _ (Ne.symm e1), HB.out.setOther _ (Ne.symm e2), HR.out.setOther _ (Ne.symm e3), HS.out.next (by omega) _ (by rw [HK.out, Bool.false_and])⟩
        case measure => simp [intOf]; omega
    · obtain rfl : k = 6 := by omega
      go_wp2_with (first | (refine loadT 111 6 Try.size111 Try.row111 (by rfl) _ (by rfl) (w.heap.size + 1 + 1 + 1) (by rfl) _ HS.out.range (bools_len _ _) ?_) | (refine storeT 111 6 Try.size111 (by rfl) _ _ (by rfl) (w.heap.size + 1 + 1) _ (by rfl) (by rfl) HR.out.there (bools_size _ _) (bools_one _ _) ?_; intro w5 hb5 hz5 hk5 hr5))
      exact bodyPost_ret (v := .agg (bools 6 (upto 6 fun j => a j && b j)).toArray) (resultT Try.results81 Try.size111 Try.row111 _ _ (w.heap.size + 1 + 1) _ rfl hr5 (by simp [bools_len])) rfl ⟨rfl, hbel.trans (hb5.mono (by omega))⟩

set_option maxRecDepth 100000 in
set_option maxHeartbeats 1000000 in
theorem full_is (gb : Nat) (G : Gph) (mk : Nat → ByteArray) (w : World) (HG : Hid (Gm w gb G mk)) :
    Calls Try.prog 102 #[.pointer (some ⟨gb, 0, none⟩)] w fun e w' => e = .returned (.agg (six (upto G.n fun _ => true))) ∧ Below w.heap.size w w' := by
  have hg6 := HG.out.n6
  have hgl := HG.out.lt
  go_enter Try.func102, Try.ntmps102
  go_wp2_with fail
  go_loopw [4] (fun q wr => ∃ k : Nat, k ≤ G.n ∧ q = .int .i64 k ∧ Below w.heap.size w wr ∧ Hid (Arr wr w.heap.size 6 (fun _ => false)) ∧ Hid (Arr wr (w.heap.size + 1) 6 (upto k fun _ => true))) (fun q _ => G.n - (intOf q).toNat)
  case atStart =>
    refine ⟨0, by omega, rfl, below2S w _ _, (arr_new w (fun _ => false) 111).alloc _, ?_⟩
    show Arr _ _ _ _
    rw [upto_zero]
    exact arr_at _ (fun _ => false) 111 _ (by simp)
  case round =>
    obtain ⟨k, hk, rfl, hbel, HR, HS⟩ := hrel
    have hn := (HG.out.below hbel hgl).cn
    have e1 : w.heap.size ≠ w.heap.size + 1 := by omega
    by_cases hlt : k < G.n
    · have cs := HS.out.c k (by omega)
      have zs := HS.out.z k (by omega)
      have k0 : (0 : Int) ≤ (k : Int) := by omega
      have k1 : (k : Int) < 6 := by omega
      go_wp2_with fail
      go_roundw
      case rel => exact ⟨k + 1, by omega, by go_num, hbel.setCell (by simp) _, HR.out.setOther _ (Ne.symm e1), HS.out.next (by omega) _ rfl⟩
      case measure => simp [intOf]; omega
    · have hkn : k = G.n := by omega
      have HK : Hid (k = G.n) := hkn
      clear hkn
      go_wp2_with (first | (refine loadT 111 6 Try.size111 Try.row111 (by rfl) _ (by rfl) (w.heap.size + 1) (by rfl) _ HS.out.range (bools_len _ _) ?_) | (refine storeT 111 6 Try.size111 (by rfl) _ _ (by rfl) w.heap.size _ (by rfl) (by rfl) HR.out.there (bools_size _ _) (bools_one _ _) ?_; intro w5 hb5 hz5 hk5 hr5))
      refine bodyPost_ret (v := .agg (bools 6 (upto k fun _ => true)).toArray) (resultT Try.results102 Try.size111 Try.row111 _ _ w.heap.size _ rfl hr5 (by simp [bools_len])) rfl ⟨?_, hbel.trans (hb5.mono (by omega))⟩
      rw [HK.out]
      rfl

set_option maxRecDepth 100000 in
set_option maxHeartbeats 1000000 in
theorem plain_is (gb c : Nat) (G : Gph) (mk : Nat → ByteArray) (w : World) (HG : Hid (Gm w gb G mk)) :
    Calls Try.prog 82 #[.pointer (some ⟨gb, 0, none⟩), .int .u8 (c : Int)] w fun e w' => e = .returned (.agg (six (upto G.n fun j => (c == 84) || G.m j c))) ∧ Below w.heap.size w w' := by
  have hg6 := HG.out.n6
  have hgl := HG.out.lt
  obtain ⟨t, ht⟩ : ∃ t, ((c : Int) == 84) = t := ⟨_, rfl⟩
  have HT : Hid ((c == 84) = t) := by
    show _ = _
    rw [← ht, Bool.eq_iff_iff, beq_iff_eq, beq_iff_eq]
    omega
  go_enter Try.func82, Try.ntmps82
  go_wp2_with fail
  go_loopw [6] (fun q wr => ∃ k : Nat, k ≤ G.n ∧ q = .int .i64 k ∧ Below w.heap.size w wr ∧ Hid (Arr wr w.heap.size 6 (fun _ => false)) ∧ Hid (Arr wr (w.heap.size + 1) 6 (upto k fun j => (c == 84) || G.m j c))) (fun q _ => G.n - (intOf q).toNat)
  case atStart =>
    refine ⟨0, by omega, rfl, below2S w _ _, (arr_new w (fun _ => false) 111).alloc _, ?_⟩
    show Arr _ _ _ _
    rw [upto_zero]
    exact arr_at _ (fun _ => false) 111 _ (by simp)
  case round =>
    obtain ⟨k, hk, rfl, hbel, HR, HS⟩ := hrel
    have HGr : Hid (Gm _ gb G mk) := HG.out.below hbel hgl
    have hn := HGr.out.cn
    have e1 : w.heap.size ≠ w.heap.size + 1 := by omega
    by_cases hlt : k < G.n
    · have cs := HS.out.c k (by omega)
      have zs := HS.out.z k (by omega)
      have k0 : (0 : Int) ≤ (k : Int) := by omega
      have k1 : (k : Int) < 6 := by omega
      cases t with
      | true =>
        go_wp2_with fail
        go_roundw
        case rel => exact ⟨k + 1, by omega, by go_num, hbel.setCell (by simp) _, HR.out.setOther _ (Ne.symm e1), HS.out.next (by omega) _ (by rw [HT.out, Bool.true_or])⟩
        case measure => simp [intOf]; omega
      | false =>
        go_wp2_with (go_at_call 100; refine (bears_is gb k c G mk _ (by omega) HGr).mono ?_; rintro e w1 ⟨rfl, m, rfl⟩)
        go_roundw
        case rel => exact ⟨k + 1, by omega, by go_num, (below_drewN hbel m).setCell (by simp) _, (HR.out.drewN m).setOther _ (Ne.symm e1), (HS.out.drewN m).next (by omega) _ (by rw [HT.out, Bool.false_or])⟩
        case measure => simp [intOf]; omega
    · have hkn : k = G.n := by omega
      have HK : Hid (k = G.n) := hkn
      clear hkn
      go_wp2_with (first | (refine loadT 111 6 Try.size111 Try.row111 (by rfl) _ (by rfl) (w.heap.size + 1) (by rfl) _ HS.out.range (bools_len _ _) ?_) | (refine storeT 111 6 Try.size111 (by rfl) _ _ (by rfl) w.heap.size _ (by rfl) (by rfl) HR.out.there (bools_size _ _) (bools_one _ _) ?_; intro w5 hb5 hz5 hk5 hr5))
      refine bodyPost_ret (v := .agg (bools 6 (upto k fun j => (c == 84) || G.m j c)).toArray) (resultT Try.results82 Try.size111 Try.row111 _ _ w.heap.size _ rfl hr5 (by simp [bools_len])) rfl ⟨?_, hbel.trans (hb5.mono (by omega))⟩
      rw [HK.out]
      rfl

end Go.Proofs.Ytkjnhhbibaimfaa
