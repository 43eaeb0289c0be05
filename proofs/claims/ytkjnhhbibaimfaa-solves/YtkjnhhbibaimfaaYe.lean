import Derived.Test.YtkjnhhbibaimfaaYd
namespace Go.Proofs.Ytkjnhhbibaimfaa
open Go.RowKit Fw
open Go.Deep (BT)
set_option linter.unusedVariables false

set_option maxRecDepth 100000 in
set_option maxHeartbeats 3200000 in
theorem readTwo_any (n : Nat) (hP : PartAt n) (wy a z zz b p d : Nat) (s : ByteArray) (v : Value) (ns : List Nd) (w : World) (ha : a < 256) (hz : z < 256) (hzz : zz < 256) (hs : s.size ≤ 30) (hp : p ≤ s.size) (hd : ns.length + (d + 1) ≤ p) (HR : Hid (Rd w b s p v ns)) (hn : s.size - p < n) :
    Calls Try.prog 70 #[.pointer (some ⟨b, 0, none⟩), .agg #[.int .u8 0, .int .u8 (wy : Int), .int .i64 0, .int .i64 0, .int .i64 0], .int .u8 (a : Int), .int .u8 (z : Int), .int .u8 (zz : Int)] w fun e w' => Out (two (pt n) wy a z zz (tl s p)) b s d v ns w e w' := by
  have hbH : b ≠ w.heap.size := by have := HR.out.lt; omega
  have hHb : w.heap.size ≠ b := Ne.symm hbH
  have HV0 : Hid (v.ownBlock ≠ some w.heap.size) := fun e => by have := (HR.out.own.lt _ e).2; omega
  go_enter Try.func70, Try.ntmps70
  go_wp2_with fail
  refine (hP b p (d + 1) s v ns _ hs hp hd (HR.out.alloc _) hn).mono ?_
  rintro e w1 ⟨v1, ns1, hrd, hkp, hlen, ⟨hx, i, rfl, hrep, hclo⟩ | ⟨hx, rfl⟩⟩
  · have HX1 : Hid ((pt n (tl s p)).1 = true) := hx
    have hbox : Bx w1 w.heap.size (.int .u8 0) (.int .u8 (wy : Int)) (.int .i64 0) (.int .i64 0) (.int .i64 0) := box_at HR.out hkp
    obtain ⟨hq1, hq2, hq3⟩ := rest_tl hp hx
    obtain ⟨p1, hp1⟩ : ∃ p1, p1 = s.size - (pt n (tl s p)).2.1.length := ⟨_, rfl⟩
    rw [← hp1] at hrd hlen hq1 hq2
    have hp1s : p1 ≤ s.size := by omega
    have HQ1 : Hid ((pt n (tl s p)).2.1 = tl s p1) := hq2
    obtain ⟨ms, hms⟩ : ∃ ms, ms = ns ++ ns1 := ⟨_, rfl⟩
    rw [← hms] at hrd hlen hrep hclo
    have HCLO : Hid (Clo ns → Clo ms) := hclo
    clear hclo
    have HMS : Hid (ms = ns ++ ns1) := hms
    have HRD1 : Hid (Rd w1 b s p1 v1 ms) := hrd
    have HREP1 : Hid (Rep ms (pt n (tl s p)).2.2 i) := hrep
    have HG1 : Hid (good (pt n (tl s p)).2.2) := (pt_sound n (tl s p) hx).2
    have HKP1 : Hid (Kp b v v1 w w1) := hkp.unbox
    have hz1 : w.heap.size < w1.heap.size := by have := hkp.size; simp at this; omega
    have HV1 : Hid (v1.ownBlock ≠ some w.heap.size) := own_ne hkp (by simp) HV0.out
    obtain ⟨k0, k1, k2, k3, k4, kz⟩ := hbox.cells
    have HBX1 : Hid (Bx w1 w.heap.size (.int .u8 0) (.int .u8 (wy : Int)) (.int .i64 0) (.int .i64 0) (.int .i64 0)) := hbox
    have hz0 := kz 0
    clear hx hq2 hq3 hp1 hms hrd hrep hkp hbox kz
    go_wp2_with fail
    refine (skip1_any b p1 a s v1 ms _ hs hp1s ha (HRD1.out.setOther _ hHb HV1.out)).mono ?_
    rintro e w2 (⟨hA, rfl, hrd2, hkp2⟩ | ⟨hA, rfl, hrd2, hkp2⟩)
    · have HA : Hid (isAt s p1 a = true) := hA
      have hbox2 := (HBX1.out.set0 (.int .u8 (a : Int))).kept hkp2 (by simpa using hz1) hHb HV1.out
      have HKP2 : Hid (Kp b v v1 w w2) := (HKP1.out.setNew _ (Nat.le_refl _)).trans hkp2
      have hz2 : w.heap.size < w2.heap.size := by have := hkp2.size; simp at this; omega
      have hltA := isAt_lt hA
      have HRDc : Hid (Rd w2 b s (p1 + 1) v1 ms) := hrd2
      obtain ⟨r0, r1, r2, r3, r4, rz⟩ := hbox2.cells
      have HBXc : Hid (Bx w2 w.heap.size (.int .u8 (a : Int)) (.int .u8 (wy : Int)) (.int .i64 0) (.int .i64 0) (.int .i64 0)) := hbox2
      clear hA hrd2 hkp2 hbox2 k0 k1 k2 k3 k4 hz0
      go_wp2_with fail
      refine (hP b (p1 + 1) (d + 1) s v1 ms _ hs (by omega) (by omega) HRDc.out (by omega)).mono ?_
      rintro e w4 ⟨v4, ns4, hrd4, hkp4, hlen4, ⟨hx4, j, rfl, hrep4, hclo4⟩ | ⟨hx4, rfl⟩⟩
      · obtain ⟨hq41, hq42, hq43⟩ := rest_tl (p := p1 + 1) (by omega) hx4
        have HX4 : Hid ((pt n (tl s (p1 + 1))).1 = true) := hx4
        obtain ⟨p2, hp2⟩ : ∃ p2, p2 = s.size - (pt n (tl s (p1 + 1))).2.1.length := ⟨_, rfl⟩
        rw [← hp2] at hrd4 hlen4 hq41 hq42
        have hp2s : p2 ≤ s.size := by omega
        have HQ4 : Hid ((pt n (tl s (p1 + 1))).2.1 = tl s p2) := hq42
        obtain ⟨mt, hmt⟩ : ∃ mt, mt = ms ++ ns4 := ⟨_, rfl⟩
        rw [← hmt] at hrd4 hlen4 hrep4 hclo4
        have HCLO4 : Hid (Clo ms → Clo mt) := hclo4
        clear hclo4
        have HMT : Hid (mt = ms ++ ns4) := hmt
        have HRD4 : Hid (Rd w4 b s p2 v4 mt) := hrd4
        have HREP4 : Hid (Rep mt (pt n (tl s (p1 + 1))).2.2 j) := hrep4
        have HREP3 : Hid (Rep mt (pt n (tl s p)).2.2 i) := by rw [hmt]; exact HREP1.out.more _
        have HG4 : Hid (good (pt n (tl s (p1 + 1))).2.2) := (pt_sound n (tl s (p1 + 1)) hx4).2
        have HKP4 : Hid (Kp b v v4 w w4) := HKP2.out.trans hkp4
        have hz4 : w.heap.size < w4.heap.size := by have := hkp4.size; omega
        have HV4 : Hid (v4.ownBlock ≠ some w.heap.size) := own_ne hkp4 hz2 HV1.out
        have hbox4 := HBXc.out.kept hkp4 hz2 hHb HV1.out
        have HBX4 : Hid (Bx w4 w.heap.size (.int .u8 (a : Int)) (.int .u8 (wy : Int)) (.int .i64 0) (.int .i64 0) (.int .i64 0)) := hbox4
        clear hx4 hq42 hq43 hp2 hmt hrd4 hrep4 hkp4 hbox4 r0 r1 r2 r3 r4 rz
        go_wp2_with fail
        refine (skip1_any b p2 zz s v4 mt _ hs hp2s hzz HRD4.out).mono ?_
        rintro e w5 (⟨hC, rfl, hrd5, hkp5⟩ | ⟨hC, rfl, hrd5, hkp5⟩)
        · have HT : Hid (two (pt n) wy a z zz (tl s p) = (true, tl s (p2 + 1), .node a wy () (pt n (tl s p)).2.2 (pt n (tl s (p1 + 1))).2.2)) := two_yes HX1.out HQ1.out HA.out (.inl rfl) HX4.out HQ4.out hC
          have hltC := isAt_lt hC
          have hbox5 := HBX4.out.kept hkp5 hz4 hHb HV4.out
          have HKP5 : Hid (Kp b v v4 w w5) := HKP4.out.trans hkp5
          have hle1 : nst (pt n (tl s p)).2.2 ≤ 30 := by
            have e1 := congrArg List.length (pt_sound n (tl s p) HX1.out).1
            have e2 := nst_le _ HG1.out
            rw [List.length_append, tl_length] at e1
            omega
          have hle2 : nst (pt n (tl s (p1 + 1))).2.2 ≤ 30 := by
            have e1 := congrArg List.length (pt_sound n (tl s (p1 + 1)) HX4.out).1
            have e2 := nst_le _ HG4.out
            rw [List.length_append, tl_length] at e1
            omega
          obtain ⟨t1, ht1⟩ : ∃ t1, t1 = (pt n (tl s p)).2.2 := ⟨_, rfl⟩
          obtain ⟨t2, ht2⟩ : ∃ t2, t2 = (pt n (tl s (p1 + 1))).2.2 := ⟨_, rfl⟩
          rw [← ht1] at hle1 HG1 HREP3 HT
          rw [← ht2] at hle2 HG4 HREP4 HT
          obtain ⟨g, cap, hv, hi, hbg, hgl, hcell1⟩ := hrd5.nest HREP3.out HG1.out
          obtain ⟨g2, cap2, hv2, hj, _, _, hcell2⟩ := hrd5.nest HREP4.out HG4.out
          rw [hv] at hv2
          injection hv2 with hv3 _ _
          injection hv3 with hv4
          injection hv4 with hv5 _ _
          subst hv5
          have hgH : g ≠ w.heap.size := by intro e; apply HV4.out; rw [hv, e]; rfl
          have hHg : w.heap.size ≠ g := Ne.symm hgH
          have c2 := hrd5.c2
          rw [hv] at c2
          have HRD5 : Hid (Rd w5 b s (p2 + 1) v4 mt) := hrd5
          have HVV : Hid (v4 = .slice (some ⟨g, 0, none⟩) mt.length cap) := hv
          obtain ⟨u0, u1, u2, u3, u4, uz⟩ := hbox5.cells
          have uz2 := uz 2
          have uz3 := uz 3
          have uz4 := uz 4
          have hi0 : (0 : Int) ≤ (i : Int) := by omega
          have hj0 : (0 : Int) ≤ (j : Int) := by omega
          have hi2 : (i : Int) < (mt.length : Int) := by omega
          have hj2 : (j : Int) < (mt.length : Int) := by omega
          have hml : mt.length ≤ 1000 := by omega
          clear hC hrd5 hkp5 hbox5 hv uz ht1 ht2
          go_wp2_with fail
          go_region_held3 (fun w' => w'.cell? ⟨b, 2, none⟩ = some (.slice (some ⟨g, 0, none⟩) mt.length cap) ∧ w'.cell? ⟨g, i * 5 + 4, none⟩ = some (.int .i64 ((nst t1 : Nat) : Int)) ∧ w'.cell? ⟨g, j * 5 + 4, none⟩ = some (.int .i64 ((nst t2 : Nat) : Int))) (go_keep)
            (first | (go_at_call 98; refine (greater_any _ _ _).mono ?_; rintro e w' ⟨rfl, rfl⟩))
          rename_i hHeld
          clear hHeld
          go_wp2_with fail
          refine (add_any b (p2 + 1) a wy i j (max (nst t1) (nst t2)) s v4 mt _ hml (by omega) (((HRD5.out.setOther _ hHb HV4.out).setOther _ hHb HV4.out).setOther _ hHb HV4.out).drew).mono ?_
          rintro e w6 ⟨rfl, v6, hrd6, hkp6⟩
          have HRD6 : Hid (Rd w6 b s (p2 + 1) v6 (mt ++ [(a, wy, i, j, max (nst t1) (nst t2) + if wy = 0 then 0 else 1)])) := hrd6
          have HKP6 : Hid (Kp b v v6 w w6) := ((((HKP5.out.setNew _ (Nat.le_refl _)).setNew _ (Nat.le_refl _)).setNew _ (Nat.le_refl _)).drew).trans hkp6
          clear hrd6 hkp6
          go_wp2_with fail
          go_ret2
          show Out _ b s d v ns w _ _
          rw [HT.out]
          refine ⟨v6, ns1 ++ ns4 ++ [(a, wy, i, j, max (nst t1) (nst t2) + if wy = 0 then 0 else 1)], ?_, HKP6.out, ?_, .inl ⟨rfl, mt.length, rfl, ?_⟩⟩
          · rw [← List.append_assoc, ← List.append_assoc, ← HMS.out, ← HMT.out]; simp only [tl_length]; rw [show s.size - (s.size - (p2 + 1)) = p2 + 1 from by omega]; exact HRD6.out
          · rw [← List.append_assoc, ← List.append_assoc, ← HMS.out, ← HMT.out]; simp only [tl_length, List.length_append, List.length_cons, List.length_nil]; omega
          · rw [← List.append_assoc, ← List.append_assoc, ← HMS.out, ← HMT.out]; exact ⟨HREP3.out.new HREP4.out rfl, fun h => (HCLO4.out (HCLO.out h)).snoc (.inr ⟨by show i < _; omega, by show j < _; omega⟩)⟩
        · have HT : Hid (two (pt n) wy a z zz (tl s p) = (false, tl s p2, .nil)) := two_noclose HX1.out HQ1.out HA.out (.inl rfl) HX4.out HQ4.out hC
          have HRD5 : Hid (Rd w5 b s p2 v4 mt) := hrd5
          have HKP5 : Hid (Kp b v v4 w w5) := HKP4.out.trans hkp5
          clear hC hrd5 hkp5
          go_wp2_with fail
          go_ret2
          show Out _ b s d v ns w _ _
          rw [HT.out]
          refine ⟨v4, ns1 ++ ns4, ?_, HKP5.out, ?_, .inr ⟨rfl, rfl⟩⟩
          · rw [← List.append_assoc, ← HMS.out, ← HMT.out]; simp only [tl_length]; rw [show s.size - (s.size - p2) = p2 from by omega]; exact HRD5.out
          · rw [← List.append_assoc, ← HMS.out, ← HMT.out]; simp only [tl_length]; omega
      · have HT : Hid (two (pt n) wy a z zz (tl s p) = (false, (pt n (tl s (p1 + 1))).2.1, .nil)) := two_noright HX1.out HQ1.out HA.out (.inl rfl) hx4
        have HRD4 : Hid (Rd w4 b s (s.size - (pt n (tl s (p1 + 1))).2.1.length) v4 (ms ++ ns4)) := hrd4
        have HKP4 : Hid (Kp b v v4 w w4) := HKP2.out.trans hkp4
        clear hx4 hrd4 hkp4
        go_wp2_with fail
        go_ret2
        show Out _ b s d v ns w _ _
        rw [HT.out]
        refine ⟨v4, ns1 ++ ns4, ?_, HKP4.out, ?_, .inr ⟨rfl, rfl⟩⟩
        · rw [← List.append_assoc, ← HMS.out]; exact HRD4.out
        · rw [← List.append_assoc, ← HMS.out]; show _ ≤ s.size - (pt n (tl s (p1 + 1))).2.1.length; omega
    · have HA : Hid (isAt s p1 a = false) := hA
      have hbox2 := (HBX1.out.set0 (.int .u8 (a : Int))).kept hkp2 (by simpa using hz1) hHb HV1.out
      have HKP2 : Hid (Kp b v v1 w w2) := (HKP1.out.setNew _ (Nat.le_refl _)).trans hkp2
      have hz2 : w.heap.size < w2.heap.size := by have := hkp2.size; simp at this; omega
      have HRD2 : Hid (Rd w2 b s p1 v1 ms) := hrd2
      have HBX2 : Hid (Bx w2 w.heap.size (.int .u8 (a : Int)) (.int .u8 (wy : Int)) (.int .i64 0) (.int .i64 0) (.int .i64 0)) := hbox2
      obtain ⟨m0, m1, m2, m3, m4, mz⟩ := hbox2.cells
      have mz0 := mz 0
      clear hA hrd2 hkp2 hbox2 mz k0 k1 k2 k3 k4 hz0
      go_wp2_with fail
      refine (skip1_any b p1 z s v1 ms _ hs hp1s hz (HRD2.out.setOther _ hHb HV1.out)).mono ?_
      rintro e w3 (⟨hB, rfl, hrd3, hkp3⟩ | ⟨hB, rfl, hrd3, hkp3⟩)
      · have HB : Hid (isAt s p1 z = true) := hB
        have hbox3 := (HBX2.out.set0 (.int .u8 (z : Int))).kept hkp3 (by simpa using hz2) hHb HV1.out
        have HKP3 : Hid (Kp b v v1 w w3) := (HKP2.out.setNew _ (Nat.le_refl _)).trans hkp3
        have hz3 : w.heap.size < w3.heap.size := by have := hkp3.size; simp at this; omega
        have hltB := isAt_lt hB
        have HRDc : Hid (Rd w3 b s (p1 + 1) v1 ms) := hrd3
        obtain ⟨r0, r1, r2, r3, r4, rz⟩ := hbox3.cells
        have HBXc : Hid (Bx w3 w.heap.size (.int .u8 (z : Int)) (.int .u8 (wy : Int)) (.int .i64 0) (.int .i64 0) (.int .i64 0)) := hbox3
        clear hB hrd3 hkp3 hbox3 m0 m1 m2 m3 m4 mz0
        go_wp2_with fail
        refine (hP b (p1 + 1) (d + 1) s v1 ms _ hs (by omega) (by omega) HRDc.out (by omega)).mono ?_
        rintro e w4 ⟨v4, ns4, hrd4, hkp4, hlen4, ⟨hx4, j, rfl, hrep4, hclo4⟩ | ⟨hx4, rfl⟩⟩
        · obtain ⟨hq41, hq42, hq43⟩ := rest_tl (p := p1 + 1) (by omega) hx4
          have HX4 : Hid ((pt n (tl s (p1 + 1))).1 = true) := hx4
          obtain ⟨p2, hp2⟩ : ∃ p2, p2 = s.size - (pt n (tl s (p1 + 1))).2.1.length := ⟨_, rfl⟩
          rw [← hp2] at hrd4 hlen4 hq41 hq42
          have hp2s : p2 ≤ s.size := by omega
          have HQ4 : Hid ((pt n (tl s (p1 + 1))).2.1 = tl s p2) := hq42
          obtain ⟨mt, hmt⟩ : ∃ mt, mt = ms ++ ns4 := ⟨_, rfl⟩
          rw [← hmt] at hrd4 hlen4 hrep4 hclo4
          have HCLO4 : Hid (Clo ms → Clo mt) := hclo4
          clear hclo4
          have HMT : Hid (mt = ms ++ ns4) := hmt
          have HRD4 : Hid (Rd w4 b s p2 v4 mt) := hrd4
          have HREP4 : Hid (Rep mt (pt n (tl s (p1 + 1))).2.2 j) := hrep4
          have HREP3 : Hid (Rep mt (pt n (tl s p)).2.2 i) := by rw [hmt]; exact HREP1.out.more _
          have HG4 : Hid (good (pt n (tl s (p1 + 1))).2.2) := (pt_sound n (tl s (p1 + 1)) hx4).2
          have HKP4 : Hid (Kp b v v4 w w4) := HKP3.out.trans hkp4
          have hz4 : w.heap.size < w4.heap.size := by have := hkp4.size; omega
          have HV4 : Hid (v4.ownBlock ≠ some w.heap.size) := own_ne hkp4 hz3 HV1.out
          have hbox4 := HBXc.out.kept hkp4 hz3 hHb HV1.out
          have HBX4 : Hid (Bx w4 w.heap.size (.int .u8 (z : Int)) (.int .u8 (wy : Int)) (.int .i64 0) (.int .i64 0) (.int .i64 0)) := hbox4
          clear hx4 hq42 hq43 hp2 hmt hrd4 hrep4 hkp4 hbox4 r0 r1 r2 r3 r4 rz
          go_wp2_with fail
          refine (skip1_any b p2 zz s v4 mt _ hs hp2s hzz HRD4.out).mono ?_
          rintro e w5 (⟨hC, rfl, hrd5, hkp5⟩ | ⟨hC, rfl, hrd5, hkp5⟩)
          · have HT : Hid (two (pt n) wy a z zz (tl s p) = (true, tl s (p2 + 1), .node z wy () (pt n (tl s p)).2.2 (pt n (tl s (p1 + 1))).2.2)) := two_yes HX1.out HQ1.out HB.out (.inr rfl) HX4.out HQ4.out hC
            have hltC := isAt_lt hC
            have hbox5 := HBX4.out.kept hkp5 hz4 hHb HV4.out
            have HKP5 : Hid (Kp b v v4 w w5) := HKP4.out.trans hkp5
            have hle1 : nst (pt n (tl s p)).2.2 ≤ 30 := by
              have e1 := congrArg List.length (pt_sound n (tl s p) HX1.out).1
              have e2 := nst_le _ HG1.out
              rw [List.length_append, tl_length] at e1
              omega
            have hle2 : nst (pt n (tl s (p1 + 1))).2.2 ≤ 30 := by
              have e1 := congrArg List.length (pt_sound n (tl s (p1 + 1)) HX4.out).1
              have e2 := nst_le _ HG4.out
              rw [List.length_append, tl_length] at e1
              omega
            obtain ⟨t1, ht1⟩ : ∃ t1, t1 = (pt n (tl s p)).2.2 := ⟨_, rfl⟩
            obtain ⟨t2, ht2⟩ : ∃ t2, t2 = (pt n (tl s (p1 + 1))).2.2 := ⟨_, rfl⟩
            rw [← ht1] at hle1 HG1 HREP3 HT
            rw [← ht2] at hle2 HG4 HREP4 HT
            obtain ⟨g, cap, hv, hi, hbg, hgl, hcell1⟩ := hrd5.nest HREP3.out HG1.out
            obtain ⟨g2, cap2, hv2, hj, _, _, hcell2⟩ := hrd5.nest HREP4.out HG4.out
            rw [hv] at hv2
            injection hv2 with hv3 _ _
            injection hv3 with hv4
            injection hv4 with hv5 _ _
            subst hv5
            have hgH : g ≠ w.heap.size := by intro e; apply HV4.out; rw [hv, e]; rfl
            have hHg : w.heap.size ≠ g := Ne.symm hgH
            have c2 := hrd5.c2
            rw [hv] at c2
            have HRD5 : Hid (Rd w5 b s (p2 + 1) v4 mt) := hrd5
            have HVV : Hid (v4 = .slice (some ⟨g, 0, none⟩) mt.length cap) := hv
            obtain ⟨u0, u1, u2, u3, u4, uz⟩ := hbox5.cells
            have uz2 := uz 2
            have uz3 := uz 3
            have uz4 := uz 4
            have hi0 : (0 : Int) ≤ (i : Int) := by omega
            have hj0 : (0 : Int) ≤ (j : Int) := by omega
            have hi2 : (i : Int) < (mt.length : Int) := by omega
            have hj2 : (j : Int) < (mt.length : Int) := by omega
            have hml : mt.length ≤ 1000 := by omega
            clear hC hrd5 hkp5 hbox5 hv uz ht1 ht2
            go_wp2_with fail
            go_region_held3 (fun w' => w'.cell? ⟨b, 2, none⟩ = some (.slice (some ⟨g, 0, none⟩) mt.length cap) ∧ w'.cell? ⟨g, i * 5 + 4, none⟩ = some (.int .i64 ((nst t1 : Nat) : Int)) ∧ w'.cell? ⟨g, j * 5 + 4, none⟩ = some (.int .i64 ((nst t2 : Nat) : Int))) (go_keep)
              (first | (go_at_call 98; refine (greater_any _ _ _).mono ?_; rintro e w' ⟨rfl, rfl⟩))
            rename_i hHeld
            clear hHeld
            go_wp2_with fail
            refine (add_any b (p2 + 1) z wy i j (max (nst t1) (nst t2)) s v4 mt _ hml (by omega) (((HRD5.out.setOther _ hHb HV4.out).setOther _ hHb HV4.out).setOther _ hHb HV4.out).drew).mono ?_
            rintro e w6 ⟨rfl, v6, hrd6, hkp6⟩
            have HRD6 : Hid (Rd w6 b s (p2 + 1) v6 (mt ++ [(z, wy, i, j, max (nst t1) (nst t2) + if wy = 0 then 0 else 1)])) := hrd6
            have HKP6 : Hid (Kp b v v6 w w6) := ((((HKP5.out.setNew _ (Nat.le_refl _)).setNew _ (Nat.le_refl _)).setNew _ (Nat.le_refl _)).drew).trans hkp6
            clear hrd6 hkp6
            go_wp2_with fail
            go_ret2
            show Out _ b s d v ns w _ _
            rw [HT.out]
            refine ⟨v6, ns1 ++ ns4 ++ [(z, wy, i, j, max (nst t1) (nst t2) + if wy = 0 then 0 else 1)], ?_, HKP6.out, ?_, .inl ⟨rfl, mt.length, rfl, ?_⟩⟩
            · rw [← List.append_assoc, ← List.append_assoc, ← HMS.out, ← HMT.out]; simp only [tl_length]; rw [show s.size - (s.size - (p2 + 1)) = p2 + 1 from by omega]; exact HRD6.out
            · rw [← List.append_assoc, ← List.append_assoc, ← HMS.out, ← HMT.out]; simp only [tl_length, List.length_append, List.length_cons, List.length_nil]; omega
            · rw [← List.append_assoc, ← List.append_assoc, ← HMS.out, ← HMT.out]; exact ⟨HREP3.out.new HREP4.out rfl, fun h => (HCLO4.out (HCLO.out h)).snoc (.inr ⟨by show i < _; omega, by show j < _; omega⟩)⟩
          · have HT : Hid (two (pt n) wy a z zz (tl s p) = (false, tl s p2, .nil)) := two_noclose HX1.out HQ1.out HB.out (.inr rfl) HX4.out HQ4.out hC
            have HRD5 : Hid (Rd w5 b s p2 v4 mt) := hrd5
            have HKP5 : Hid (Kp b v v4 w w5) := HKP4.out.trans hkp5
            clear hC hrd5 hkp5
            go_wp2_with fail
            go_ret2
            show Out _ b s d v ns w _ _
            rw [HT.out]
            refine ⟨v4, ns1 ++ ns4, ?_, HKP5.out, ?_, .inr ⟨rfl, rfl⟩⟩
            · rw [← List.append_assoc, ← HMS.out, ← HMT.out]; simp only [tl_length]; rw [show s.size - (s.size - p2) = p2 from by omega]; exact HRD5.out
            · rw [← List.append_assoc, ← HMS.out, ← HMT.out]; simp only [tl_length]; omega
        · have HT : Hid (two (pt n) wy a z zz (tl s p) = (false, (pt n (tl s (p1 + 1))).2.1, .nil)) := two_noright HX1.out HQ1.out HB.out (.inr rfl) hx4
          have HRD4 : Hid (Rd w4 b s (s.size - (pt n (tl s (p1 + 1))).2.1.length) v4 (ms ++ ns4)) := hrd4
          have HKP4 : Hid (Kp b v v4 w w4) := HKP3.out.trans hkp4
          clear hx4 hrd4 hkp4
          go_wp2_with fail
          go_ret2
          show Out _ b s d v ns w _ _
          rw [HT.out]
          refine ⟨v4, ns1 ++ ns4, ?_, HKP4.out, ?_, .inr ⟨rfl, rfl⟩⟩
          · rw [← List.append_assoc, ← HMS.out]; exact HRD4.out
          · rw [← List.append_assoc, ← HMS.out]; show _ ≤ s.size - (pt n (tl s (p1 + 1))).2.1.length; omega
      · have HT : Hid (two (pt n) wy a z zz (tl s p) = (false, tl s p1, .nil)) := two_nosign HX1.out HQ1.out HA.out hB
        have HRD3 : Hid (Rd w3 b s p1 v1 ms) := hrd3
        have HKP3 : Hid (Kp b v v1 w w3) := (HKP2.out.setNew _ (Nat.le_refl _)).trans hkp3
        clear hB hrd3 hkp3
        go_wp2_with fail
        go_ret2
        show Out _ b s d v ns w _ _
        rw [HT.out]
        refine ⟨v1, ns1, ?_, HKP3.out, ?_, .inr ⟨rfl, rfl⟩⟩
        · rw [← HMS.out]; simp only [tl_length]; rw [show s.size - (s.size - p1) = p1 from by omega]; exact HRD3.out
        · rw [← HMS.out]; simp only [tl_length]; omega
  · have HT : Hid (two (pt n) wy a z zz (tl s p) = (false, (pt n (tl s p)).2.1, .nil)) := two_noleft hx
    have HRD : Hid (Rd w1 b s (s.size - (pt n (tl s p)).2.1.length) v1 (ns ++ ns1)) := hrd
    have HKP : Hid (Kp b v v1 w w1) := hkp.unbox
    clear hx hrd hkp
    go_wp2_with fail
    go_ret2
    show Out _ b s d v ns w _ _
    rw [HT.out]
    exact ⟨v1, ns1, HRD.out, HKP.out, by show _ ≤ s.size - (pt n (tl s p)).2.1.length; omega, .inr ⟨rfl, rfl⟩⟩

end Go.Proofs.Ytkjnhhbibaimfaa
