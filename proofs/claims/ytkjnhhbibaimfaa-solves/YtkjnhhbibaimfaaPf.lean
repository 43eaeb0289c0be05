import Derived.Test.YtkjnhhbibaimfaaPd
import Derived.Test.YtkjnhhbibaimfaaPe
namespace Go.Proofs.Ytkjnhhbibaimfaa
open Go.RowKit Fw
set_option linter.unusedVariables false

set_option maxRecDepth 100000 in
set_option maxHeartbeats 4000000 in
theorem meetsP_is (b o c x : Nat) (G : Gph) (K : Nat → ByteArray) (f : ByteArray) (B : Nat → Bool) (M : Nat → Nat → Bool) (hc : c < 6) (w : World) (HG : Hid (Wy w b o G K f B)) :
    Calls Try.prog 111 #[.pointer (some ⟨b, o, none⟩), .agg (bools 36 (flat6 M)).toArray, .int .i64 (c : Int), .int .u8 (x : Int)] w fun e w' => e = .returned (.bool (mts G M c x)) ∧ Below w.heap.size w w' := by
  have hgl := HG.out.lt
  have HB0 := mat_box w M 145
  obtain ⟨C, hC⟩ : ∃ C, C = (bools 36 (flat6 M)).toArray := ⟨_, rfl⟩
  rw [← hC]
  rw [← hC] at HB0
  clear hC
  have HB : Hid (Mat (w.alloc (.cells C 145)) w.heap.size M) := HB0
  clear HB0
  have hb1 : Below w.heap.size w (w.alloc (.cells C 145)) := (Below.refl _ _).alloc (Nat.le_refl _) _
  have HGr : Hid (Wy (w.alloc (.cells C 145)) b o G K f B) := HG.out.below hb1 hgl
  have c0 : (0 : Int) ≤ (c : Int) := by omega
  have c1 : (c : Int) < 6 := by omega
  have HM : Hid (mts G M c x = anyU (fun d => M c d && M d c && G.m d x) 6) := rfl
  go_enter Try.func111, Try.ntmps111
  go_wp2_with fail
  go_loop [9] (fun q => ∃ k : Nat, k ≤ 6 ∧ q = .int .i64 k ∧ Hid (anyU (fun d => M c d && M d c && G.m d x) k = false)) (fun q => 6 - (intOf q).toNat)
  case atStart => exact ⟨0, by omega, rfl, rfl⟩
  case round =>
    obtain ⟨k, hk, rfl, HF⟩ := hrel
    by_cases hlt : k < 6
    · have cck := HB.out.c c k hc hlt
      have ckc := HB.out.c k c hlt hc
      have k0 : (0 : Int) ≤ (k : Int) := by omega
      have k1 : (k : Int) < 6 := by omega
      have HX : Hid (anyU (fun d => M c d && M d c && G.m d x) (k + 1) = (false || (M c k && M k c && G.m k x))) := by show _ = _; rw [anyU_succ, HF.out]
      have HC := bearsP_is b o k x G K f B _ hlt HGr
      obtain ⟨y, hy⟩ : ∃ y, y = M c k := ⟨_, rfl⟩
      obtain ⟨z, hz⟩ : ∃ z, z = M k c := ⟨_, rfl⟩
      obtain ⟨m, hm⟩ : ∃ m, m = G.m k x := ⟨_, rfl⟩
      rw [← hy] at cck
      rw [← hz] at ckc
      rw [← hm] at HC
      rw [← hy, ← hz, ← hm] at HX
      clear hy hz hm
      cases y with
      | false =>
        go_wp2_with fail
        go_round
        case rel => exact ⟨k + 1, by omega, by go_num, by show _ = _; rw [HX.out]; rfl⟩
        case measure => simp [intOf]; omega
      | true =>
        cases z with
        | false =>
          go_wp2_with fail
          go_round
          case rel => exact ⟨k + 1, by omega, by go_num, by show _ = _; rw [HX.out]; rfl⟩
          case measure => simp [intOf]; omega
        | true =>
          cases m with
          | false =>
            go_wp2_with (go_at_call 113; refine HC.mono ?_; rintro e w' ⟨rfl, rfl⟩)
            go_round
            case rel => exact ⟨k + 1, by omega, by go_num, by show _ = _; rw [HX.out]; rfl⟩
            case measure => simp [intOf]; omega
          | true =>
            have HY : Hid (mts G M c x = true) := by
              show _ = _
              rw [HM.out]
              unfold anyU
              rw [List.any_eq_true]
              have h2 := HX.out
              unfold anyU at h2
              simp only [Bool.false_or, Bool.and_self] at h2
              rw [List.any_eq_true] at h2
              obtain ⟨d, hd, hp⟩ := h2
              exact ⟨d, List.mem_range.2 (by have := List.mem_range.1 hd; omega), hp⟩
            go_wp2_with (go_at_call 113; refine HC.mono ?_; rintro e w' ⟨rfl, rfl⟩)
            go_ret
            exact ⟨by rw [HY.out]; rfl, hb1⟩
    · obtain rfl : k = 6 := by omega
      go_wp2_with fail
      go_ret
      exact ⟨by rw [HM.out, HF.out]; rfl, hb1⟩

theorem yld36 {ops : Array Oper} {S : World → Prop} {op : Oper} {a : Act} (H : Nat) (L : List Value) (hl : L.length = 36) (hw : Region.wanted op (yielded ops a.tmps) = true) (x : Operand) (ho : op.op = .load 145 x) (hx : a.eval x = .pointer (some ⟨H, 0, none⟩)) (hS : ∀ w, S w → w.rangeAt H 0 L) : YieldsIf Try.prog ops S op (.agg L.toArray) a := by
  obtain ⟨d, hu, hd⟩ := Try.row145
  exact yieldsIf_load_mid hw 145 x ho H 0 hx L d hS hu hd (by rw [hl]; exact Try.size145)

def allP (G : Gph) (M : Nat → Nat → Bool) (c : Nat) (l : List UInt8) : Bool := (l.map (·.toNat)).all fun x => mts G M c x
theorem allP_nil (G : Gph) (M : Nat → Nat → Bool) (c : Nat) {s : ByteArray} {k : Nat} (h : s.size ≤ k) : allP G M c (tl s k) = true := by
  rw [tl_nil s k h]; rfl
theorem allP_cons (G : Gph) (M : Nat → Nat → Bool) (c : Nat) {s : ByteArray} {k : Nat} (h : k < s.size) : allP G M c (tl s k) = (mts G M c s[k].toNat && allP G M c (tl s (k + 1))) := by
  rw [tl_cons s k h]; rfl

set_option maxRecDepth 100000 in
set_option maxHeartbeats 4000000 in
theorem roundP_is (b o c : Nat) (G : Gph) (K : Nat → ByteArray) (f : ByteArray) (B : Nat → Bool) (M : Nat → Nat → Bool) (hc : c < 6) (hf : f.size ≤ 1000) (w : World) (HG : Hid (Wy w b o G K f B)) :
    Calls Try.prog 90 #[.pointer (some ⟨b, o, none⟩), .agg (bools 36 (flat6 M)).toArray, .int .i64 (c : Int)] w fun e w' => e = .returned (.bool (rnd G (fsOf f) M c)) ∧ Below w.heap.size w w' := by
  have hgl := HG.out.lt
  have HB0 := mat_box w M 145
  have HME := fun (x : Nat) W (h : Hid (Wy W b o G K f B)) => meetsP_is b o c x G K f B M hc W h
  obtain ⟨L, hL⟩ : ∃ L, L = bools 36 (flat6 M) := ⟨_, rfl⟩
  rw [← hL]
  rw [← hL] at HB0 HME
  have HRG : Hid (∀ W bb, Mat W bb M → W.rangeAt bb 0 L) := by
    intro W bb h
    rw [hL]
    exact h.range
  have hl : L.length = 36 := by rw [hL, bools_len]
  clear hL
  have HB : Hid (Mat (w.alloc (.cells L.toArray 145)) w.heap.size M) := HB0
  clear HB0
  have hb1 : Below w.heap.size w (w.alloc (.cells L.toArray 145)) := (Below.refl _ _).alloc (Nat.le_refl _) _
  have c0 : (0 : Int) ≤ (c : Int) := by omega
  have c1 : (c : Int) < 6 := by omega
  have ccc := HB.out.c c c hc hc
  have HR : Hid (rnd G (fsOf f) M c = (M c c && allP G M c (tl f 0))) := rfl
  obtain ⟨y, hy⟩ : ∃ y, y = M c c := ⟨_, rfl⟩
  rw [← hy] at ccc HR
  clear hy
  go_enter Try.func90, Try.ntmps90
  cases y with
  | false =>
    go_wp2_with fail
    go_ret
    exact ⟨by rw [HR.out]; rfl, hb1⟩
  | true =>
    go_wp2_with fail
    clear ccc
    go_loopw [7] (fun q wr => ∃ k : Nat, k ≤ f.size ∧ q = .int .i64 k ∧ Below w.heap.size w wr ∧ Hid (Mat wr w.heap.size M) ∧ Hid (allP G M c (tl f k) = allP G M c (tl f 0))) (fun q _ => f.size - (intOf q).toNat)
    case atStart => exact ⟨0, by omega, rfl, hb1, HB, rfl⟩
    case round =>
      clear HB hb1
      obtain ⟨k, hk, rfl, hbel, HB, HF⟩ := hrel
      have HGr : Hid (Wy _ b o G K f B) := HG.out.below hbel hgl
      have cf := HGr.out.cf
      by_cases hlt : k < f.size
      · have HX : Hid (allP G M c (tl f 0) = (mts G M c f[k].toNat && allP G M c (tl f (k + 1)))) := by show _ = _; rw [← HF.out, allP_cons G M c hlt]
        have HC := HME f[k].toNat _ (show Hid _ from HGr.out.drew)
        obtain ⟨m, hm⟩ : ∃ m, m = mts G M c f[k].toNat := ⟨_, rfl⟩
        rw [← hm] at HX HC
        clear hm
        cases m with
        | false =>
          go_wp2_with fail
          refine wp_region_held_drew (S := fun w' => w'.cell? ⟨b, o + 45, none⟩ = some (.string f) ∧ w'.rangeAt w.heap.size 0 L) (by kernel_rfl) ⟨HGr.out.cf, HRG.out _ _ HB.out.drew⟩ (fun hHeld => ?_)
          refine wpAnyH_take (i := 1) rfl (by kernel_rfl) (by kernel_rfl) (by kernel_rfl) (fun _ _ _ h => h) (yld36 w.heap.size L hl (by rfl) _ (by rfl) (by rfl) (fun _ h => h.2)) hHeld ?_
          simp only [Act.put, List.setIfInBounds_toArray]
          refine wpAnyH_take (i := 0) (v := ?v1) rfl (by kernel_rfl) (by kernel_rfl) (by kernel_rfl) (fun _ _ _ h => h) (Or.inl ⟨by rfl, ?hy1⟩) hHeld ?rest1
          case hy1 =>
            intro W hW
            obtain ⟨hW1, hW2⟩ := hW
            go_simp
            try with_reducible rfl
          simp only [Act.put]
          refine wpAnyH_take (i := 2) (v := ?v2) rfl (by kernel_rfl) (by kernel_rfl) (by kernel_rfl) (fun _ _ _ h => h) (Or.inl ⟨by rfl, ?hy2⟩) hHeld ?rest2
          case hy2 =>
            intro W hW
            obtain ⟨hW1, hW2⟩ := hW
            go_simp
            try with_reducible rfl
          simp only [Act.put]
          refine wpAnyH_take (i := 3) (v := ?v3) rfl (by kernel_rfl) (by kernel_rfl) (by kernel_rfl) (fun _ _ _ h => h) (Or.inl ⟨by rfl, ?hy3⟩) hHeld ?rest3
          case hy3 =>
            intro W hW
            obtain ⟨hW1, hW2⟩ := hW
            go_simp
            try with_reducible rfl
          simp only [Act.put]
          refine wpAnyH_take (i := 4) (v := ?v4) rfl (by kernel_rfl) (by kernel_rfl) (by kernel_rfl) (fun _ _ _ h => h) (Or.inl ⟨by rfl, ?hy4⟩) hHeld ?rest4
          case hy4 =>
            intro W hW
            obtain ⟨hW1, hW2⟩ := hW
            go_simp
            try with_reducible rfl
          simp only [Act.put]
          refine wpAnyH_take (i := 5) (v := ?v5) rfl (by kernel_rfl) (by kernel_rfl) (by kernel_rfl) (fun _ _ _ h => h) (Or.inl ⟨by rfl, ?hy5⟩) hHeld ?rest5
          case hy5 =>
            intro W hW
            obtain ⟨hW1, hW2⟩ := hW
            go_simp
            try with_reducible rfl
          simp only [Act.put]
          refine wpAnyH_take (i := 6) (v := ?v6) rfl (by kernel_rfl) (by kernel_rfl) (by kernel_rfl) (fun _ _ _ h => h) (Or.inl ⟨by rfl, ?hy6⟩) hHeld ?rest6
          case hy6 =>
            intro W hW
            obtain ⟨hW1, hW2⟩ := hW
            go_simp
            try with_reducible rfl
          simp only [Act.put]
          refine wpAnyH_take (i := 7) (v := ?v7) rfl (by kernel_rfl) (by kernel_rfl) (by kernel_rfl) (fun _ _ _ h => h) (Or.inl ⟨by rfl, ?hy7⟩) hHeld ?rest7
          case hy7 =>
            intro W hW
            obtain ⟨hW1, hW2⟩ := hW
            go_simp
            try with_reducible rfl
          simp only [Act.put]
          refine wpAnyH_take (i := 8) (v := ?v8) rfl (by kernel_rfl) (by kernel_rfl) (by kernel_rfl) (fun _ _ _ h => h) (Or.inl ⟨by rfl, ?hy8⟩) hHeld ?rest8
          case hy8 =>
            intro W hW
            obtain ⟨hW1, hW2⟩ := hW
            go_simp
            try with_reducible rfl
          simp only [Act.put]
          refine wpAnyH_ready (rs := [9]) (by kernel_rfl) (by simp) ?_
          refine AllReadyH.cons rfl (fun KK hKK => ?_) AllReadyH.nil
          go_simp
          refine HC.mono ?_
          rintro e w4 ⟨rfl, hb4⟩
          have HB4 : Hid (Mat w4 w.heap.size M) := HB.out.drew.below hb4 HB.out.lt
          have HG4 : Hid (Wy w4 b o G K f B) := HGr.out.drew.below hb4 HGr.out.lt
          clear hHeld
          go_wp2_with fail
          refine hKK.out _ _ ⟨HG4.out.cf, HRG.out _ _ HB4.out⟩ (fun hHeld => ?_)
          clear hKK KK
          refine wpAnyH_take (i := 10) (v := ?v9) rfl (by kernel_rfl) (by kernel_rfl) (by kernel_rfl) (fun _ _ _ h => h) (Or.inl ⟨by rfl, ?hy9⟩) hHeld ?rest9
          case hy9 =>
            intro W hW
            obtain ⟨hW1, hW2⟩ := hW
            go_simp
            try with_reducible rfl
          simp only [Act.put]
          refine wpAnyH_done (by kernel_rfl) ?_ _
          go_wp2_with fail
          go_ret
          exact ⟨by rw [HR.out, HX.out]; rfl, Below.to hbel.drew hb4⟩
        | true =>
          go_wp2_with fail
          refine wp_region_held_drew (S := fun w' => w'.cell? ⟨b, o + 45, none⟩ = some (.string f) ∧ w'.rangeAt w.heap.size 0 L) (by kernel_rfl) ⟨HGr.out.cf, HRG.out _ _ HB.out.drew⟩ (fun hHeld => ?_)
          refine wpAnyH_take (i := 1) rfl (by kernel_rfl) (by kernel_rfl) (by kernel_rfl) (fun _ _ _ h => h) (yld36 w.heap.size L hl (by rfl) _ (by rfl) (by rfl) (fun _ h => h.2)) hHeld ?_
          simp only [Act.put, List.setIfInBounds_toArray]
          refine wpAnyH_take (i := 0) (v := ?v11) rfl (by kernel_rfl) (by kernel_rfl) (by kernel_rfl) (fun _ _ _ h => h) (Or.inl ⟨by rfl, ?hy11⟩) hHeld ?rest11
          case hy11 =>
            intro W hW
            obtain ⟨hW1, hW2⟩ := hW
            go_simp
            try with_reducible rfl
          simp only [Act.put]
          refine wpAnyH_take (i := 2) (v := ?v12) rfl (by kernel_rfl) (by kernel_rfl) (by kernel_rfl) (fun _ _ _ h => h) (Or.inl ⟨by rfl, ?hy12⟩) hHeld ?rest12
          case hy12 =>
            intro W hW
            obtain ⟨hW1, hW2⟩ := hW
            go_simp
            try with_reducible rfl
          simp only [Act.put]
          refine wpAnyH_take (i := 3) (v := ?v13) rfl (by kernel_rfl) (by kernel_rfl) (by kernel_rfl) (fun _ _ _ h => h) (Or.inl ⟨by rfl, ?hy13⟩) hHeld ?rest13
          case hy13 =>
            intro W hW
            obtain ⟨hW1, hW2⟩ := hW
            go_simp
            try with_reducible rfl
          simp only [Act.put]
          refine wpAnyH_take (i := 4) (v := ?v14) rfl (by kernel_rfl) (by kernel_rfl) (by kernel_rfl) (fun _ _ _ h => h) (Or.inl ⟨by rfl, ?hy14⟩) hHeld ?rest14
          case hy14 =>
            intro W hW
            obtain ⟨hW1, hW2⟩ := hW
            go_simp
            try with_reducible rfl
          simp only [Act.put]
          refine wpAnyH_take (i := 5) (v := ?v15) rfl (by kernel_rfl) (by kernel_rfl) (by kernel_rfl) (fun _ _ _ h => h) (Or.inl ⟨by rfl, ?hy15⟩) hHeld ?rest15
          case hy15 =>
            intro W hW
            obtain ⟨hW1, hW2⟩ := hW
            go_simp
            try with_reducible rfl
          simp only [Act.put]
          refine wpAnyH_take (i := 6) (v := ?v16) rfl (by kernel_rfl) (by kernel_rfl) (by kernel_rfl) (fun _ _ _ h => h) (Or.inl ⟨by rfl, ?hy16⟩) hHeld ?rest16
          case hy16 =>
            intro W hW
            obtain ⟨hW1, hW2⟩ := hW
            go_simp
            try with_reducible rfl
          simp only [Act.put]
          refine wpAnyH_take (i := 7) (v := ?v17) rfl (by kernel_rfl) (by kernel_rfl) (by kernel_rfl) (fun _ _ _ h => h) (Or.inl ⟨by rfl, ?hy17⟩) hHeld ?rest17
          case hy17 =>
            intro W hW
            obtain ⟨hW1, hW2⟩ := hW
            go_simp
            try with_reducible rfl
          simp only [Act.put]
          refine wpAnyH_take (i := 8) (v := ?v18) rfl (by kernel_rfl) (by kernel_rfl) (by kernel_rfl) (fun _ _ _ h => h) (Or.inl ⟨by rfl, ?hy18⟩) hHeld ?rest18
          case hy18 =>
            intro W hW
            obtain ⟨hW1, hW2⟩ := hW
            go_simp
            try with_reducible rfl
          simp only [Act.put]
          refine wpAnyH_ready (rs := [9]) (by kernel_rfl) (by simp) ?_
          refine AllReadyH.cons rfl (fun KK hKK => ?_) AllReadyH.nil
          go_simp
          refine HC.mono ?_
          rintro e w4 ⟨rfl, hb4⟩
          have HB4 : Hid (Mat w4 w.heap.size M) := HB.out.drew.below hb4 HB.out.lt
          have HG4 : Hid (Wy w4 b o G K f B) := HGr.out.drew.below hb4 HGr.out.lt
          clear hHeld
          go_wp2_with fail
          refine hKK.out _ _ ⟨HG4.out.cf, HRG.out _ _ HB4.out⟩ (fun hHeld => ?_)
          clear hKK KK
          refine wpAnyH_take (i := 10) (v := ?v19) rfl (by kernel_rfl) (by kernel_rfl) (by kernel_rfl) (fun _ _ _ h => h) (Or.inl ⟨by rfl, ?hy19⟩) hHeld ?rest19
          case hy19 =>
            intro W hW
            obtain ⟨hW1, hW2⟩ := hW
            go_simp
            try with_reducible rfl
          simp only [Act.put]
          refine wpAnyH_done (by kernel_rfl) ?_ _
          go_wp2_with fail
          go_roundw
          case rel => exact ⟨k + 1, by omega, by go_num, Below.to hbel.drew hb4, HB4, by show _ = _; rw [HX.out]; rfl⟩
          case measure => simp [intOf]; omega
      · go_wp2_with fail
        go_ret
        exact ⟨by rw [HR.out, ← HF.out, allP_nil G M c (by omega)]; rfl, hbel⟩

end Go.Proofs.Ytkjnhhbibaimfaa
