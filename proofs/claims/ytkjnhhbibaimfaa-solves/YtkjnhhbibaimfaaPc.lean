import Derived.Test.YtkjnhhbibaimfaaPb
namespace Go.Proofs.Ytkjnhhbibaimfaa
open Go.RowKit Fw
set_option linter.unusedVariables false

/-- from cell o of block b on: a graph as the program keeps it, the fair marks behind it, and a set behind these -/
structure Wy (w : World) (b o : Nat) (G : Gph) (K : Nat → ByteArray) (f : ByteArray) (B : Nat → Bool) : Prop where
  lt : b < w.heap.size
  n6 : G.n ≤ 6
  cn : w.cell? ⟨b, o + 2, none⟩ = some (.int .i64 (G.n : Int))
  cm : ∀ i, i < 6 → w.cell? ⟨b, o + 3 + i, none⟩ = some (.string (K i))
  ce : ∀ i j, i < 6 → j < 6 → w.cell? ⟨b, o + 9 + i * 6 + j, none⟩ = some (.bool (G.e i j))
  cf : w.cell? ⟨b, o + 45, none⟩ = some (.string f)
  cb : ∀ i, i < 6 → w.cell? ⟨b, o + 46 + i, none⟩ = some (.bool (B i))
  ks : ∀ i, (K i).size ≤ 1000
  mm : ∀ i c, i < 6 → (G.m i c = true ↔ ∃ d ∈ (K i).data.toList, d.toNat = c)

theorem Wy.below {w w' : World} {b o k : Nat} {G : Gph} {K : Nat → ByteArray} {f : ByteArray} {B : Nat → Bool} (h : Wy w b o G K f B) (hb : Below k w w') (hk : b < k) : Wy w' b o G K f B :=
  ⟨Nat.lt_of_lt_of_le h.lt hb.size, h.n6, (hb.cell (p := ⟨b, o + 2, none⟩) hk).trans h.cn, fun i hi => (hb.cell (p := ⟨b, o + 3 + i, none⟩) hk).trans (h.cm i hi), fun i j hi hj => (hb.cell (p := ⟨b, o + 9 + i * 6 + j, none⟩) hk).trans (h.ce i j hi hj), (hb.cell (p := ⟨b, o + 45, none⟩) hk).trans h.cf, fun i hi => (hb.cell (p := ⟨b, o + 46 + i, none⟩) hk).trans (h.cb i hi), h.ks, h.mm⟩

set_option maxRecDepth 100000 in
set_option maxHeartbeats 1000000 in
theorem bearsP_is (b o i c : Nat) (G : Gph) (K : Nat → ByteArray) (f : ByteArray) (B : Nat → Bool) (w : World) (hi : i < 6) (HG : Hid (Wy w b o G K f B)) :
    Calls Try.prog 113 #[.pointer (some ⟨b, o, none⟩), .int .i64 (i : Int), .int .u8 (c : Int)] w fun e w' => e = .returned (.bool (G.m i c)) ∧ w' = w := by
  have hm := HG.out.cm i hi
  obtain ⟨s, hs⟩ : ∃ s, s = K i := ⟨_, rfl⟩
  have hsz : s.size ≤ 1000 := by rw [hs]; exact HG.out.ks i
  rw [← hs] at hm
  have HB : Hid (G.m i c = decide (findc c (tl s 0) < s.size)) := by
    show _ = _
    rw [Bool.eq_iff_iff, HG.out.mm i c hi, ← hs, decide_eq_true_eq, tlS]
    have := findc_lt c s.data.toList
    rw [← this]
    have e : s.size = s.data.toList.length := by
      show s.data.size = _
      rw [Array.length_toList]
    rw [e]
  have k0 : (0 : Int) ≤ (i : Int) := by omega
  have k1 : (i : Int) < 6 := by omega
  clear hs
  go_enter Try.func113, Try.ntmps113
  go_wp2_with fail
  go_loop [8] (fun q => ∃ k : Nat, k ≤ s.size ∧ q = .int .i64 k ∧ Hid (k + findc c (tl s k) = findc c (tl s 0))) (fun q => s.size - (intOf q).toNat)
  case atStart => exact ⟨0, by omega, rfl, by show _ = _; simp⟩
  case round =>
    obtain ⟨k, hk, rfl, HF⟩ := hrel
    by_cases hlt : k < s.size
    · by_cases hc : s[k].toNat = c
      · have hc' : ((s[k].toNat : Int) == (c : Int)) = true := by rw [beq_iff_eq]; omega
        have HZ : Hid (findc c (tl s k) = 0) := findc_yes hlt hc
        clear hc
        go_wp2_with fail
        go_ret
        have h := HF.out
        rw [HZ.out] at h
        have hv : G.m i c = true := by rw [HB.out, decide_eq_true_eq]; omega
        exact ⟨by rw [hv]; rfl, rfl⟩
      · have hc' : ((s[k].toNat : Int) == (c : Int)) = false := by rw [beq_eq_false_iff_ne]; omega
        have HZ : Hid (findc c (tl s k) = findc c (tl s (k + 1)) + 1) := findc_no hlt hc
        go_wp2_with fail
        go_round
        case rel =>
          refine ⟨k + 1, by omega, by go_num, ?_⟩
          have h := HF.out
          rw [HZ.out] at h
          show _ = _
          omega
        case measure => simp [intOf]; omega
    · go_wp2_with fail
      go_ret
      have h := HF.out
      rw [findc_end (by omega)] at h
      have hv : G.m i c = false := by rw [HB.out, decide_eq_false_iff_not]; omega
      exact ⟨by rw [hv]; rfl, rfl⟩

theorem ahd_any (e : Nat → Nat → Bool) (a : Nat → Bool) (i : Nat) : anyU (fun j => e i j && a j) 6 = ahd e a i := rfl

set_option maxRecDepth 100000 in
set_option maxHeartbeats 2000000 in
theorem aheadP_is (b o : Nat) (G : Gph) (K : Nat → ByteArray) (f : ByteArray) (B a : Nat → Bool) (w : World) (HG : Hid (Wy w b o G K f B)) :
    Calls Try.prog 112 #[.pointer (some ⟨b, o, none⟩), .agg (six a)] w fun e w' => e = .returned (.agg (six (ahd G.e a))) ∧ Below w.heap.size w w' := by
  have hgl := HG.out.lt
  have e1 : w.heap.size ≠ w.heap.size + 1 + 1 := by omega
  have e2 : w.heap.size + 1 ≠ w.heap.size + 1 + 1 := by omega
  have e3 : b ≠ w.heap.size + 1 + 1 := by omega
  obtain ⟨F, hF⟩ : ∃ F, F = ahd G.e a := ⟨_, rfl⟩
  have HF : Hid (∀ i, anyU (fun j => G.e i j && a j) 6 = F i) := by intro i; rw [hF]; rfl
  rw [← hF]
  clear hF
  go_enter Try.func112, Try.ntmps112
  go_wp2_with fail
  go_loopw [6] (fun q wr => ∃ k : Nat, k ≤ 6 ∧ q = .int .i64 k ∧ Below w.heap.size w wr ∧ Hid (Arr wr w.heap.size 6 a) ∧ Hid (Arr wr (w.heap.size + 1) 6 (fun _ => false)) ∧ Hid (Arr wr (w.heap.size + 1 + 1) 6 (upto k F))) (fun q _ => 6 - (intOf q).toNat)
  case atStart =>
    refine ⟨0, by omega, rfl, below3 w _ _ _, ((arr_new w a 59).alloc _).alloc _, (arr_at (w.alloc _) (fun _ => false) 59 _ (by simp)).alloc _, ?_⟩
    show Arr _ _ _ _
    rw [upto_zero]
    exact arr_at _ (fun _ => false) 59 _ (by simp)
  case round =>
    obtain ⟨k, hk, rfl, hbel, HA, HR, HS⟩ := hrel
    by_cases hlt : k < 6
    · go_wp2_with fail
      go_loopw [7] (fun q wr => ∃ l : Nat, l ≤ 6 ∧ q = .int .i64 l ∧ Below w.heap.size w wr ∧ Hid (Arr wr w.heap.size 6 a) ∧ Hid (Arr wr (w.heap.size + 1) 6 (fun _ => false)) ∧ Hid (Arr wr (w.heap.size + 1 + 1) 6 (part k F (anyU (fun j => G.e k j && a j) l)))) (fun q _ => 6 - (intOf q).toNat)
      case atStart => exact ⟨0, by omega, rfl, hbel, HA, HR, HS.out.partIn⟩
      case round =>
        clear hbel HA HR HS
        obtain ⟨l, hl, rfl, hbel, HA, HR, HS⟩ := hrel
        by_cases hll : l < 6
        · have HGr : Hid (Wy _ b o G K f B) := HG.out.below hbel hgl
          have ca := HA.out.c l (by omega)
          have ce := HGr.out.ce k l (by omega) (by omega)
          have cs := HS.out.c k (by omega)
          have zs := HS.out.z k (by omega)
          have k0 : (0 : Int) ≤ (k : Int) := by omega
          have k1 : (k : Int) < 6 := by omega
          have l0 : (0 : Int) ≤ (l : Int) := by omega
          have l1 : (l : Int) < 6 := by omega
          have HX : Hid (anyU (fun j => G.e k j && a j) (l + 1) = (anyU (fun j => G.e k j && a j) l || (G.e k l && a l))) := anyU_succ _ _
          obtain ⟨x, hx⟩ : ∃ x, x = G.e k l := ⟨_, rfl⟩
          obtain ⟨y, hy⟩ : ∃ y, y = a l := ⟨_, rfl⟩
          rw [← hx] at ce HX
          rw [← hy] at ca HX
          clear hx hy
          cases x with
          | false =>
            go_wp2_with fail
            go_roundw
            case rel => exact ⟨l + 1, by omega, by go_num, hbel, HA, HR, by show Arr _ _ _ _; rw [HX.out, Bool.false_and, Bool.or_false]; exact HS.out⟩
            case measure => simp [intOf]; omega
          | true =>
            cases y with
            | false =>
              go_wp2_with fail
              go_roundw
              case rel => exact ⟨l + 1, by omega, by go_num, hbel, HA, HR, by show Arr _ _ _ _; rw [HX.out, Bool.and_false, Bool.or_false]; exact HS.out⟩
              case measure => simp [intOf]; omega
            | true =>
              go_wp2_with fail
              go_roundw
              case rel => exact ⟨l + 1, by omega, by go_num, hbel.setCell (by simp; omega) _, HA.out.setOther _ (Ne.symm e1), HR.out.setOther _ (Ne.symm e2), HS.out.part (by omega) _ _ (by rw [HX.out, Bool.and_true, Bool.or_true])⟩
              case measure => simp [intOf]; omega
        · obtain rfl : l = 6 := by omega
          go_wp2_with fail
          go_roundw
          case rel => exact ⟨k + 1, by omega, by go_num, hbel, HA, HR, HS.out.partOut (HF.out k)⟩
          case measure => simp [intOf]; omega
    · obtain rfl : k = 6 := by omega
      go_wp2_with (first | (refine loadS (by rfl) _ (by rfl) (w.heap.size + 1 + 1) (by rfl) _ HS.out ?_) | (refine storeS (by rfl) _ _ (by rfl) (w.heap.size + 1) _ _ (by rfl) (by rfl) HR.out ?_; intro w5 hb5 hz5 hk5 HR5))
      exact bodyPost_ret (resultS Try.results112 _ _ (w.heap.size + 1) _ rfl HR5) rfl ⟨rfl, hbel.trans (hb5.mono (by omega))⟩

end Go.Proofs.Ytkjnhhbibaimfaa
