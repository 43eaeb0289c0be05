import Derived.Test.YtkjnhhbibaimfaaPm
namespace Go.Proofs.Ytkjnhhbibaimfaa
open Go.RowKit Fw
open Go.Deep (BT)
set_option linter.unusedVariables false

/-- a row of nodes -/
structure Nr (w : World) (g : Nat) (ns : List Nd) : Prop where
  lt : g < w.heap.size
  c : ∀ i x, ns[i]? = some x → ∀ j u, (five x)[j]? = some u → w.cell? ⟨g, i * 5 + j, none⟩ = some u
theorem Nr.below {w w' : World} {k g : Nat} {ns : List Nd} (h : Nr w g ns) (hb : Below k w w') (hk : g < k) : Nr w' g ns :=
  ⟨Nat.lt_of_lt_of_le h.lt hb.size, fun i x hx j u hu => (hb.cell (p := ⟨g, i * 5 + j, none⟩) hk).trans (h.c i x hx j u hu)⟩

set_option maxRecDepth 100000 in
set_option maxHeartbeats 4000000 in
theorem holdings_P (b o g n cap : Nat) (G : Gph) (K : Nat → ByteArray) (f : ByteArray) (ns : List Nd) (hc : Clo ns) (hl : ns.length = n) (hn : n ≤ 1000) (hf : f.size ≤ 1000) (w : World) (HG : Hid (Wy w b o G K f (begP G (fsOf f)))) (HN : Hid (Nr w g ns)) :
    Calls Try.prog 48 #[.pointer (some ⟨b, o, none⟩), .slice (some ⟨g, 0, none⟩) n cap] w fun e w' => Below w.heap.size w w' ∧ e = .returned (.slice (some ⟨w.heap.size, 0, none⟩) n n) ∧ Tab w' w.heap.size n (vals G (fsOf f) ns n) := by
  have hgl := HG.out.lt
  have hnl := HN.out.lt
  obtain ⟨Z, hZ, hmk⟩ := make_sets n hn
  have HZ : Hid (∀ j, j < n * 6 → Z[j]? = some (.bool false)) := hZ
  have HCL : Hid (Clo ns) := hc
  have HLEN : Hid (ns.length = n) := hl
  clear hZ hc hl
  go_enter Try.func48, Try.ntmps48
  go_wp2_with fail
  clear hmk
  go_loopw [6] (fun q wr => ∃ k : Nat, k ≤ n ∧ q = .int .i64 k ∧ Below w.heap.size w wr ∧ Hid (Tab wr w.heap.size n (vals G (fsOf f) ns k))) (fun q _ => n - (intOf q).toNat)
  case atStart =>
    have hb := heap_alloc_new w (.cells Z 59)
    refine ⟨0, by omega, rfl, (Below.refl _ _).alloc (Nat.le_refl _) _, ⟨by simp, fun i j hi hj => ?_, fun o _ => frozen_of_row _ _ _ _ _ hb⟩⟩
    rw [cell_of_row _ _ _ _ _ _ hb]
    exact HZ.out _ (by omega)
  case round =>
    obtain ⟨k, hk, rfl, hbel, HT⟩ := hrel
    by_cases hlt : k < n
    · obtain ⟨⟨sg, wy, li, ri, c⟩, hx⟩ : ∃ x, ns[k]? = some x := ⟨_, List.getElem?_eq_getElem (by rw [HLEN.out]; exact hlt)⟩
      have hlr : li < n ∧ ri < n := by
        rcases HCL.out k _ hx with ⟨_, h1, h2⟩ | ⟨h1, h2⟩
        · simp only at h1 h2; omega
        · simp only at h1 h2; omega
      obtain ⟨hli, hri⟩ := hlr
      have HNr : Hid (Nr wr g ns) := HN.out.below hbel hnl
      have n0 : wr.cell? ⟨g, k * 5, none⟩ = some (.int .u8 (sg : Int)) := HNr.out.c k _ hx 0 _ rfl
      have n1 : wr.cell? ⟨g, k * 5 + 1, none⟩ = some (.int .u8 (wy : Int)) := HNr.out.c k _ hx 1 _ rfl
      have n2 : wr.cell? ⟨g, k * 5 + 2, none⟩ = some (.int .i64 (li : Int)) := HNr.out.c k _ hx 2 _ rfl
      have n3 : wr.cell? ⟨g, k * 5 + 3, none⟩ = some (.int .i64 (ri : Int)) := HNr.out.c k _ hx 3 _ rfl
      have n4 : wr.cell? ⟨g, k * 5 + 4, none⟩ = some (.int .i64 (c : Int)) := HNr.out.c k _ hx 4 _ rfl
      have HNX : Hid (∀ W, Tab W w.heap.size n (fun i j => if i = k then hold1 G (fsOf f) sg wy (vals G (fsOf f) ns k li) (vals G (fsOf f) ns k ri) j else vals G (fsOf f) ns k i j) → Hid (Tab W w.heap.size n (vals G (fsOf f) ns (k + 1)))) := by
        intro W h
        show Tab _ _ _ _
        rw [← vals_next hx]
        exact h
      have HSL : Hid (∀ W, Tab W w.heap.size n (vals G (fsOf f) ns k) → (∀ j, j < 6 → W.cell? ⟨w.heap.size, li * 6 + j, none⟩ = some (.bool (vals G (fsOf f) ns k li j))) ∧ (∀ j, j < 6 → W.cell? ⟨w.heap.size, ri * 6 + j, none⟩ = some (.bool (vals G (fsOf f) ns k ri j)))) :=
        fun W h => ⟨fun j hj => h.c li j hli hj, fun j hj => h.c ri j hri hj⟩
      obtain ⟨SL, hSL⟩ : ∃ SL, SL = vals G (fsOf f) ns k li := ⟨_, rfl⟩
      obtain ⟨TR, hTR⟩ : ∃ TR, TR = vals G (fsOf f) ns k ri := ⟨_, rfl⟩
      rw [← hSL, ← hTR] at HNX HSL
      clear hSL hTR
      have HC := fun W (h : Hid (Wy W b o G K f (begP G (fsOf f)))) => hold_P b o sg wy li ri c G K f SL TR hf W h
      have i0 : (0 : Int) ≤ (li : Int) := by omega
      have i1 : (li : Int) < (n : Int) := by omega
      have j0 : (0 : Int) ≤ (ri : Int) := by omega
      have j1 : (ri : Int) < (n : Int) := by omega
      have k0 : (0 : Int) ≤ (k : Int) := by omega
      have k1 : (k : Int) < (n : Int) := by omega
      have hsz : w.heap.size < wr.heap.size := HT.out.lt
      clear hx
      go_wp2_with fail
      generalize hW : wr.alloc (Obj.cells #[Value.int IntKind.u8 (sg : Int), Value.int IntKind.u8 (wy : Int), Value.int IntKind.i64 (li : Int), Value.int IntKind.i64 (ri : Int), Value.int IntKind.i64 (c : Int)] 97) = W
      have m0 : W.cell? ⟨wr.heap.size, 0, none⟩ = some (.int .u8 (sg : Int)) := by rw [← hW]; simp
      have m1 : W.cell? ⟨wr.heap.size, 1, none⟩ = some (.int .u8 (wy : Int)) := by rw [← hW]; simp
      have m2 : W.cell? ⟨wr.heap.size, 2, none⟩ = some (.int .i64 (li : Int)) := by rw [← hW]; simp
      have m3 : W.cell? ⟨wr.heap.size, 3, none⟩ = some (.int .i64 (ri : Int)) := by rw [← hW]; simp
      have m4 : W.cell? ⟨wr.heap.size, 4, none⟩ = some (.int .i64 (c : Int)) := by rw [← hW]; simp
      have hbW2 : Below wr.heap.size wr W := by rw [← hW]; exact (Below.refl _ _).alloc (Nat.le_refl _) _
      have hwb : wr.heap.size < W.heap.size := by rw [← hW]; simp
      have hwn : wr.heap.size ≠ w.heap.size := by omega
      have HTW : Hid (Tab W w.heap.size n (vals G (fsOf f) ns k)) := HT.out.below hbW2 HT.out.lt
      have hbelW : Below w.heap.size w W := Below.to hbel hbW2
      have HGW : Hid (Wy W b o G K f (begP G (fsOf f))) := HG.out.below hbelW hgl
      obtain ⟨hsl, htr⟩ := HSL.out W HTW.out
      have s0 : W.cell? ⟨w.heap.size, li * 6, none⟩ = some (.bool (SL 0)) := hsl 0 (by omega)
      have s1 := hsl 1 (by omega)
      have s2 := hsl 2 (by omega)
      have s3 := hsl 3 (by omega)
      have s4 := hsl 4 (by omega)
      have s5 := hsl 5 (by omega)
      have t0 : W.cell? ⟨w.heap.size, ri * 6, none⟩ = some (.bool (TR 0)) := htr 0 (by omega)
      have t1 := htr 1 (by omega)
      have t2 := htr 2 (by omega)
      have t3 := htr 3 (by omega)
      have t4 := htr 4 (by omega)
      have t5 := htr 5 (by omega)
      clear hsl htr HSL hW hbW2 n0 n1 n2 n3 n4 HNr HT hbel
      refine wp_region_held_drew (S := fun w' => w'.cell? ⟨wr.heap.size, 0, none⟩ = some (.int .u8 (sg : Int)) ∧ w'.cell? ⟨wr.heap.size, 1, none⟩ = some (.int .u8 (wy : Int)) ∧ w'.cell? ⟨wr.heap.size, 2, none⟩ = some (.int .i64 (li : Int)) ∧ w'.cell? ⟨wr.heap.size, 3, none⟩ = some (.int .i64 (ri : Int)) ∧ w'.cell? ⟨wr.heap.size, 4, none⟩ = some (.int .i64 (c : Int))) (by kernel_rfl) ⟨m0, m1, m2, m3, m4⟩ (fun hHeld => ?_)
      refine wpAnyH_take (i := 0) (v := ?v1) rfl (by kernel_rfl) (by kernel_rfl) (by kernel_rfl) (fun _ _ _ h => h) (Or.inl ⟨by rfl, ?hy1⟩) hHeld ?rest1
      case hy1 =>
        intro W' hW'
        obtain ⟨hW0, hW1, hW2, hW3, hW4⟩ := hW'
        go_simp
        try with_reducible rfl
      simp only [Act.put]
      refine wpAnyH_take (i := 1) (v := ?v2) rfl (by kernel_rfl) (by kernel_rfl) (by kernel_rfl) (fun _ _ _ h => h) (Or.inl ⟨by rfl, ?hy2⟩) hHeld ?rest2
      case hy2 =>
        intro W' hW'
        obtain ⟨hW0, hW1, hW2, hW3, hW4⟩ := hW'
        go_simp
        try with_reducible rfl
      simp only [Act.put]
      refine wpAnyH_take (i := 2) (v := ?v3) rfl (by kernel_rfl) (by kernel_rfl) (by kernel_rfl) (fun _ _ _ h => h) (Or.inl ⟨by rfl, ?hy3⟩) hHeld ?rest3
      case hy3 =>
        intro W' hW'
        obtain ⟨hW0, hW1, hW2, hW3, hW4⟩ := hW'
        go_simp
        try with_reducible rfl
      simp only [Act.put]
      refine wpAnyH_take (i := 3) (v := ?v4) rfl (by kernel_rfl) (by kernel_rfl) (by kernel_rfl) (fun _ _ _ h => h) (Or.inl ⟨by rfl, ?hy4⟩) hHeld ?rest4
      case hy4 =>
        intro W' hW'
        obtain ⟨hW0, hW1, hW2, hW3, hW4⟩ := hW'
        go_simp
        try with_reducible rfl
      simp only [Act.put]
      refine wpAnyH_take (i := 4) (v := ?v5) rfl (by kernel_rfl) (by kernel_rfl) (by kernel_rfl) (fun _ _ _ h => h) (Or.inl ⟨by rfl, ?hy5⟩) hHeld ?rest5
      case hy5 =>
        intro W' hW'
        obtain ⟨hW0, hW1, hW2, hW3, hW4⟩ := hW'
        go_simp
        try with_reducible rfl
      simp only [Act.put]
      refine wpAnyH_take (i := 5) (v := ?v6) rfl (by kernel_rfl) (by kernel_rfl) (by kernel_rfl) (fun _ _ _ h => h) (Or.inl ⟨by rfl, ?hy6⟩) hHeld ?rest6
      case hy6 =>
        intro W' hW'
        obtain ⟨hW0, hW1, hW2, hW3, hW4⟩ := hW'
        go_simp
        try with_reducible rfl
      simp only [Act.put]
      refine wpAnyH_take (i := 6) (v := ?v7) rfl (by kernel_rfl) (by kernel_rfl) (by kernel_rfl) (fun _ _ _ h => h) (Or.inl ⟨by rfl, ?hy7⟩) hHeld ?rest7
      case hy7 =>
        intro W' hW'
        obtain ⟨hW0, hW1, hW2, hW3, hW4⟩ := hW'
        go_simp
        try with_reducible rfl
      simp only [Act.put]
      refine wpAnyH_take (i := 7) (v := ?v8) rfl (by kernel_rfl) (by kernel_rfl) (by kernel_rfl) (fun _ _ _ h => h) (Or.inl ⟨by rfl, ?hy8⟩) hHeld ?rest8
      case hy8 =>
        intro W' hW'
        obtain ⟨hW0, hW1, hW2, hW3, hW4⟩ := hW'
        go_simp
        try with_reducible rfl
      simp only [Act.put]
      refine wpAnyH_take (i := 9) (v := ?v9) rfl (by kernel_rfl) (by kernel_rfl) (by kernel_rfl) (fun _ _ _ h => h) (Or.inl ⟨by rfl, ?hy9⟩) hHeld ?rest9
      case hy9 =>
        intro W' hW'
        obtain ⟨hW0, hW1, hW2, hW3, hW4⟩ := hW'
        go_simp
        try with_reducible rfl
      simp only [Act.put]
      refine wpAnyH_take (i := 10) (v := ?v10) rfl (by kernel_rfl) (by kernel_rfl) (by kernel_rfl) (fun _ _ _ h => h) (Or.inl ⟨by rfl, ?hy10⟩) hHeld ?rest10
      case hy10 =>
        intro W' hW'
        obtain ⟨hW0, hW1, hW2, hW3, hW4⟩ := hW'
        go_simp
        try with_reducible rfl
      simp only [Act.put]
      refine wpAnyH_take (i := 11) (v := ?v11) rfl (by kernel_rfl) (by kernel_rfl) (by kernel_rfl) (fun _ _ _ h => h) (Or.inl ⟨by rfl, ?hy11⟩) hHeld ?rest11
      case hy11 =>
        intro W' hW'
        obtain ⟨hW0, hW1, hW2, hW3, hW4⟩ := hW'
        go_simp
        try with_reducible rfl
      simp only [Act.put]
      refine wpAnyH_take (i := 12) (v := ?v12) rfl (by kernel_rfl) (by kernel_rfl) (by kernel_rfl) (fun _ _ _ h => h) (Or.inl ⟨by rfl, ?hy12⟩) hHeld ?rest12
      case hy12 =>
        intro W' hW'
        obtain ⟨hW0, hW1, hW2, hW3, hW4⟩ := hW'
        go_simp
        try with_reducible rfl
      simp only [Act.put]
      refine wpAnyH_ready (rs := [8, 13]) (by kernel_rfl) (by simp) ?_
      refine AllReadyH.cons rfl (fun KK hKK => ?_) (AllReadyH.cons rfl (fun KK hKK => ?_) AllReadyH.nil)
      · go_simp
        refine hKK.out _ _ hHeld (fun hHeld => ?_)
        clear hKK KK
        refine wpAnyH_ready (rs := [13]) (by kernel_rfl) (by simp) ?_
        refine AllReadyH.cons rfl (fun KK hKK => ?_) AllReadyH.nil
        go_simp
        refine hKK.out _ _ hHeld (fun hHeld => ?_)
        clear hKK KK
        refine wpAnyH_ready (rs := [14]) (by kernel_rfl) (by simp) ?_
        refine AllReadyH.cons rfl (fun KK hKK => ?_) AllReadyH.nil
        go_simp
        refine (HC _ HGW.out.drew).mono ?_
        rintro e w4 ⟨rfl, hb4⟩
        have hc4 : Below W.heap.size W w4 := Below.dr hb4
        have HT4 : Hid (Tab w4 w.heap.size n (vals G (fsOf f) ns k)) := HTW.out.below hc4 HTW.out.lt
        obtain ⟨w5, hrun5, hb5, hz5, hk5, HT5'⟩ := storeRow HT4.out hlt (hold1 G (fsOf f) sg wy SL TR)
        have HT5 : Hid (Tab w5 w.heap.size n _) := HT5'
        clear HT5'
        have p0 := (hc4.cell (p := ⟨wr.heap.size, 0, none⟩) hwb).trans m0
        have p1 := (hc4.cell (p := ⟨wr.heap.size, 1, none⟩) hwb).trans m1
        have p2 := (hc4.cell (p := ⟨wr.heap.size, 2, none⟩) hwb).trans m2
        have p3 := (hc4.cell (p := ⟨wr.heap.size, 3, none⟩) hwb).trans m3
        have p4 := (hc4.cell (p := ⟨wr.heap.size, 4, none⟩) hwb).trans m4
        have r0 := (cell_block hk5 hwn 0).trans p0
        have r1 := (cell_block hk5 hwn 1).trans p1
        have r2 := (cell_block hk5 hwn 2).trans p2
        have r3 := (cell_block hk5 hwn 3).trans p3
        have r4 := (cell_block hk5 hwn 4).trans p4
        clear hHeld
        go_wp2_with fail
        refine hKK.out _ _ ⟨p0, p1, p2, p3, p4⟩ (fun hHeld => ?_)
        clear hKK KK
        refine wpAnyH_take (i := 15) (v := ?v13) rfl (by kernel_rfl) (by kernel_rfl) (by kernel_rfl) (fun _ _ _ h => h) (Or.inl ⟨by rfl, ?hy13⟩) hHeld ?rest13
        case hy13 =>
          intro W' hW'
          obtain ⟨hW0, hW1, hW2, hW3, hW4⟩ := hW'
          go_simp
          try with_reducible rfl
        simp only [Act.put]
        refine wpAnyH_ready (rs := [16]) (by kernel_rfl) (by simp) ?_
        refine AllReadyH.cons rfl (fun KK hKK => ?_) AllReadyH.nil
        go_simp
        refine hKK.out _ _ ⟨r0, r1, r2, r3, r4⟩ (fun hHeld => ?_)
        clear hKK KK
        refine wpAnyH_done (by kernel_rfl) ?_ _
        go_wp2_with fail
        go_roundw
        case rel => exact ⟨k + 1, by omega, by go_num, (Below.to hbelW hc4).trans (hb5.mono (Nat.le_refl _)), HNX.out _ HT5.out⟩
        case measure => simp [intOf]; omega
      · go_simp
        refine hKK.out _ _ hHeld (fun hHeld => ?_)
        clear hKK KK
        refine wpAnyH_ready (rs := [8]) (by kernel_rfl) (by simp) ?_
        refine AllReadyH.cons rfl (fun KK hKK => ?_) AllReadyH.nil
        go_simp
        refine hKK.out _ _ hHeld (fun hHeld => ?_)
        clear hKK KK
        refine wpAnyH_ready (rs := [14]) (by kernel_rfl) (by simp) ?_
        refine AllReadyH.cons rfl (fun KK hKK => ?_) AllReadyH.nil
        go_simp
        refine (HC _ HGW.out.drew).mono ?_
        rintro e w4 ⟨rfl, hb4⟩
        have hc4 : Below W.heap.size W w4 := Below.dr hb4
        have HT4 : Hid (Tab w4 w.heap.size n (vals G (fsOf f) ns k)) := HTW.out.below hc4 HTW.out.lt
        obtain ⟨w5, hrun5, hb5, hz5, hk5, HT5'⟩ := storeRow HT4.out hlt (hold1 G (fsOf f) sg wy SL TR)
        have HT5 : Hid (Tab w5 w.heap.size n _) := HT5'
        clear HT5'
        have p0 := (hc4.cell (p := ⟨wr.heap.size, 0, none⟩) hwb).trans m0
        have p1 := (hc4.cell (p := ⟨wr.heap.size, 1, none⟩) hwb).trans m1
        have p2 := (hc4.cell (p := ⟨wr.heap.size, 2, none⟩) hwb).trans m2
        have p3 := (hc4.cell (p := ⟨wr.heap.size, 3, none⟩) hwb).trans m3
        have p4 := (hc4.cell (p := ⟨wr.heap.size, 4, none⟩) hwb).trans m4
        have r0 := (cell_block hk5 hwn 0).trans p0
        have r1 := (cell_block hk5 hwn 1).trans p1
        have r2 := (cell_block hk5 hwn 2).trans p2
        have r3 := (cell_block hk5 hwn 3).trans p3
        have r4 := (cell_block hk5 hwn 4).trans p4
        clear hHeld
        go_wp2_with fail
        refine hKK.out _ _ ⟨p0, p1, p2, p3, p4⟩ (fun hHeld => ?_)
        clear hKK KK
        refine wpAnyH_take (i := 15) (v := ?v14) rfl (by kernel_rfl) (by kernel_rfl) (by kernel_rfl) (fun _ _ _ h => h) (Or.inl ⟨by rfl, ?hy14⟩) hHeld ?rest14
        case hy14 =>
          intro W' hW'
          obtain ⟨hW0, hW1, hW2, hW3, hW4⟩ := hW'
          go_simp
          try with_reducible rfl
        simp only [Act.put]
        refine wpAnyH_ready (rs := [16]) (by kernel_rfl) (by simp) ?_
        refine AllReadyH.cons rfl (fun KK hKK => ?_) AllReadyH.nil
        go_simp
        refine hKK.out _ _ ⟨r0, r1, r2, r3, r4⟩ (fun hHeld => ?_)
        clear hKK KK
        refine wpAnyH_done (by kernel_rfl) ?_ _
        go_wp2_with fail
        go_roundw
        case rel => exact ⟨k + 1, by omega, by go_num, (Below.to hbelW hc4).trans (hb5.mono (Nat.le_refl _)), HNX.out _ HT5.out⟩
        case measure => simp [intOf]; omega
    · obtain rfl : k = n := by omega
      go_wp2_with fail
      go_ret
      exact ⟨hbel, rfl, HT.out⟩

end Go.Proofs.Ytkjnhhbibaimfaa
