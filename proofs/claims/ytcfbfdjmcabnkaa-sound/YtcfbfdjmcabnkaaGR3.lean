import Derived.Test.YtcfbfdjmcabnkaaGR2
namespace Go.Proofs.Ytcfbfdjmcabnkaa
open Go.RowKit Fw
open Go.Deep (BT)
set_option linter.unusedVariables false

theorem Try.size116 : (Try.prog.info? 116).map (·.size) = some 42 := by kernel_rfl
theorem Try.row116 : ∃ d, Try.prog.underlying 116 = some d ∧ d.isRow = true := ⟨_, Try.underlying116, rfl⟩

theorem ls_new (w : World) {C : List Value} {ls : List Nat} {fr : Nat} (hC : C = lasC ls ls.length fr) (hle : ls.length ≤ 40) (t : TypeId) : Ls (w.alloc (.cells C.toArray t)) w.heap.size ls fr := by
  have hh := heap_alloc_new w (.cells C.toArray t)
  have hc : ∀ j, (w.alloc (.cells C.toArray t)).cell? ⟨w.heap.size, j, none⟩ = C[j]? := by
    intro j
    rw [cell_of_row _ _ _ _ _ _ hh]
    simp
  refine ⟨by simp, hle, fun i hi => ?_, ?_, ?_, fun o ho => frozen_of_row _ _ _ _ _ hh⟩
  · rw [hc, hC, lasC_at _ _ _ _ hi]
  · rw [hc, hC, lasC_n]
  · rw [hc, hC, lasC_f]

theorem metL_low (G : Gph) (ls : List Nat) (fr c : Nat) : ∀ k, k ≤ fr → metL G ls fr c k = false := by
  intro k
  induction k with
  | zero => intro _; rfl
  | succ k ih =>
    intro h
    rw [metL_succ, ih (by omega), show decide (fr ≤ k) = false from by simp; omega]
    rfl
theorem Wy.drewN {w : World} {b o : Nat} {G : Gph} {K : Nat → ByteArray} {f : ByteArray} {B : Nat → Bool} (h : Wy w b o G K f B) (n : Nat) : Wy (w.drewN n) b o G K f B := h.below (below_drewN (Below.refl _ _) n) h.lt
theorem metL_up {G : Gph} {ls : List Nat} {fr c k n : Nat} (h : metL G ls fr c k = true) (hk : k ≤ n) : metL G ls fr c n = true := by
  unfold metL at h ⊢
  rw [List.any_eq_true] at h ⊢
  obtain ⟨j, hj, hm⟩ := h
  exact ⟨j, List.mem_range.2 (by have := List.mem_range.1 hj; omega), hm⟩
theorem getD_lt {ls : List Nat} {n k : Nat} (h : ∀ y ∈ ls, y < n) (hk : k < ls.length) : ls.getD k 0 < n := by
  rw [List.getD_eq_getElem?_getD, List.getElem?_eq_getElem hk, Option.getD_some]
  exact h _ (List.getElem_mem hk)

set_option maxRecDepth 100000 in
set_option maxHeartbeats 1000000 in
theorem again_is (b o fr c : Nat) (ls : List Nat) (G : Gph) (K : Nat → ByteArray) (f : ByteArray) (B : Nat → Bool) (C : List Value) (hC : C = lasC ls ls.length fr) (w : World) (hle : ls.length ≤ 40) (hf : fr ≤ ls.length) (hls : ∀ y ∈ ls, y < G.n) (HG : Hid (Wy w b o G K f B)) :
    Calls Try.prog 89 #[.pointer (some ⟨b, o, none⟩), .agg C.toArray, .int .u8 (c : Int)] w fun e w' => e = .returned (.bool (metL G ls fr c ls.length)) ∧ Below w.heap.size w w' := by
  have HL : Hid (Ls (w.alloc (.cells C.toArray 116)) w.heap.size ls fr) := ls_new w hC hle 116
  have hbl := HG.out.lt
  have hn6 := HG.out.n6
  have HS : Hid (∀ y ∈ ls, y < G.n) := hls
  have HG0 : Hid (Wy (w.alloc (.cells C.toArray 116)) b o G K f B) := HG.out.below ((Below.refl _ _).alloc (Nat.le_refl _) _) hbl
  have hb0 : Below w.heap.size w (w.alloc (.cells C.toArray 116)) := (Below.refl _ _).alloc (Nat.le_refl _) _
  have q41 : C[41]? = some (.int .i64 (fr : Int)) := by rw [hC, lasC_f]
  have q40 : C[40]? = some (.int .i64 (ls.length : Int)) := by rw [hC, lasC_n]
  have cn := HL.out.cn
  have cf := HL.out.cf
  clear hC hls
  go_enter Try.func89, Try.ntmps89
  go_wp2_with fail
  go_loopw [7] (fun q wr => ∃ k : Nat, fr ≤ k ∧ k ≤ ls.length ∧ q = .int .i64 k ∧ Hid (metL G ls fr c k = false) ∧ Hid (Ls wr w.heap.size ls fr) ∧ Hid (Wy wr b o G K f B) ∧ Below w.heap.size w wr) (fun q _ => ls.length - (intOf q).toNat)
  case atStart => exact ⟨fr, by omega, hf, rfl, metL_low _ _ _ _ _ (Nat.le_refl _), HL, HG0, hb0⟩
  case round =>
    obtain ⟨k, hk1, hk2, rfl, HM, HLr, HGr, hbr⟩ := hrel
    have cn := HLr.out.cn
    by_cases hlt : k < ls.length
    · have hlt2 : (k : Int) < (ls.length : Int) := by omega
      have ck := HLr.out.c k (by omega)
      have k0 : (0 : Int) ≤ (k : Int) := by omega
      have k1 : (k : Int) < 40 := by omega
      have hx : ls.getD k 0 < 6 := by have := getD_lt HS.out hlt; omega
      have HX : Hid (metL G ls fr c (k + 1) = G.m (ls.getD k 0) c) := by show _ = _; rw [metL_succ, HM.out, show decide (fr ≤ k) = true from by simpa using hk1]; simp
      obtain ⟨x, hxe⟩ : ∃ x, x = ls.getD k 0 := ⟨_, rfl⟩
      rw [← hxe] at ck hx HX
      clear hxe
      have HBE := fun W (h : Hid (Wy W b o G K f B)) => bearsP_is b o x c G K f B W hx h
      cases hm : G.m x c with
      | true =>
        rw [hm] at HBE HX
        clear hm
        go_wp2_with fail
        go_quiet ((go_at_call 79; exact Calls.quiet_of_same (HBE _ (by first | exact HGr | exact HGr.out.drew | exact HGr.out.drewN _))))
        go_wp2_with fail
        go_ret
        exact ⟨by rw [metL_up HX.out (by omega)]; rfl, below_drewN hbr _⟩
      | false =>
        rw [hm] at HBE HX
        clear hm
        go_wp2_with fail
        go_quiet ((go_at_call 79; exact Calls.quiet_of_same (HBE _ (by first | exact HGr | exact HGr.out.drew | exact HGr.out.drewN _))))
        go_wp2_with fail
        go_roundw
        case rel => exact ⟨k + 1, by omega, by omega, by go_num, HX.out, HLr.out.drewN _, HGr.out.drewN _, below_drewN hbr _⟩
        case measure => simp [intOf]; omega
    · obtain rfl : k = ls.length := by omega
      have hlt2 : ¬ (ls.length : Int) < (ls.length : Int) := by omega
      go_wp2_with fail
      go_ret
      exact ⟨by rw [HM.out]; rfl, hbr⟩

theorem goesL_step (G : Gph) (fs ls : List Nat) (fr k : Nat) (hk : k < ls.length) (h : G.e (ls.getD k 0) (ls.getD (nxt ls.length fr k) 0) = false) : goesL G fs ls fr = false := by
  unfold goesL
  have : stepsL G ls fr ls.length = false := by
    rw [← Bool.not_eq_true]
    intro h2
    unfold stepsL at h2
    rw [List.all_eq_true] at h2
    have := h2 k (List.mem_range.2 hk)
    rw [h] at this
    cases this
  rw [this]
  rfl
theorem goesL_of (G : Gph) (fs ls : List Nat) (fr : Nat) (h : stepsL G ls fr ls.length = true) : goesL G fs ls fr = fs.all fun f => metL G ls fr f ls.length := by
  unfold goesL
  rw [h]
  rfl

theorem yld42 {ops : Array Oper} {S : World → Prop} {op : Oper} {a : Act} (H : Nat) (L : List Value) (hl : L.length = 42) (hw : Region.wanted op (yielded ops a.tmps) = true) (x : Operand) (ho : op.op = .load 116 x) (hx : a.eval x = .pointer (some ⟨H, 0, none⟩)) (hS : ∀ w, S w → w.rangeAt H 0 L) : YieldsIf Try.prog ops S op (.agg L.toArray) a := by
  obtain ⟨d, hu, hd⟩ := Try.row116
  exact yieldsIf_load_mid hw 116 x ho H 0 hx L d hS hu hd (by rw [hl]; exact Try.size116)

/-- the marks of a text from place k on are met -/
def allMet (G : Gph) (ls : List Nat) (fr : Nat) (l : List UInt8) : Bool := (l.map (·.toNat)).all fun f => metL G ls fr f ls.length
theorem allMet_nil (G : Gph) (ls : List Nat) (fr : Nat) {s : ByteArray} {k : Nat} (h : s.size ≤ k) : allMet G ls fr (tl s k) = true := by
  rw [tl_nil s k h]; rfl
theorem allMet_cons (G : Gph) (ls : List Nat) (fr : Nat) {s : ByteArray} {k : Nat} (h : k < s.size) : allMet G ls fr (tl s k) = (metL G ls fr s[k].toNat ls.length && allMet G ls fr (tl s (k + 1))) := by
  rw [tl_cons s k h]; rfl

set_option maxRecDepth 100000 in
set_option maxHeartbeats 1000000 in
theorem fairway_is (b o fr : Nat) (ls : List Nat) (G : Gph) (K : Nat → ByteArray) (f : ByteArray) (B : Nat → Bool) (C : List Value) (hC : C = lasC ls ls.length fr) (w : World) (hle : ls.length ≤ 40) (hf : fr < ls.length) (hls : ∀ y ∈ ls, y < G.n) (hfz : f.size ≤ 1000) (HG : Hid (Wy w b o G K f B)) :
    Calls Try.prog 86 #[.pointer (some ⟨b, o, none⟩), .agg C.toArray] w fun e w' => e = .returned (.bool (goesL G (fsOf f) ls fr)) ∧ Below w.heap.size w w' := by
  have HL : Hid (Ls (w.alloc (.cells C.toArray 116)) w.heap.size ls fr) := ls_new w hC hle 116
  have hbl := HG.out.lt
  have hn6 := HG.out.n6
  have HS : Hid (∀ y ∈ ls, y < G.n) := hls
  have HG0 : Hid (Wy (w.alloc (.cells C.toArray 116)) b o G K f B) := HG.out.below ((Below.refl _ _).alloc (Nat.le_refl _) _) hbl
  have hb0 : Below w.heap.size w (w.alloc (.cells C.toArray 116)) := (Below.refl _ _).alloc (Nat.le_refl _) _
  have HCC : Hid (C = lasC ls ls.length fr) := hC
  have HAG := fun c W (h : Hid (Wy W b o G K f B)) => again_is b o fr c ls G K f B C hC W hle (by omega) hls h
  have HCR : Hid (∀ W : World, Hid (Ls W w.heap.size ls fr) → W.rangeAt w.heap.size 0 C) := fun W h => by rw [hC]; exact h.out.range
  have hCl : C.length = 42 := by rw [hC]; exact lasC_len _ _ _
  clear hC hls
  go_enter Try.func86, Try.ntmps86
  go_wp2_with fail
  go_loopw [5] (fun q wr => ∃ k : Nat, k ≤ ls.length ∧ q = .int .i64 k ∧ Hid (stepsL G ls fr k = true) ∧ Hid (Ls wr w.heap.size ls fr) ∧ Hid (Wy wr b o G K f B) ∧ Below w.heap.size w wr) (fun q _ => ls.length - (intOf q).toNat)
  case atStart => exact ⟨0, by omega, rfl, rfl, HL, HG0, hb0⟩
  case round =>
    obtain ⟨k, hk2, rfl, HM, HLr, HGr, hbr⟩ := hrel
    have cn := HLr.out.cn
    by_cases hlt : k < ls.length
    · have hlt2 : (k : Int) < (ls.length : Int) := by omega
      have hnl : nxt ls.length fr k < ls.length := by unfold nxt; split <;> omega
      have ck := HLr.out.c k (by omega)
      have cm := HLr.out.c (nxt ls.length fr k) (by omega)
      have k0 : (0 : Int) ≤ (k : Int) := by omega
      have k1 : (k : Int) < 40 := by omega
      have hx : ls.getD k 0 < 6 := by have := getD_lt HS.out hlt; omega
      have hy : ls.getD (nxt ls.length fr k) 0 < 6 := by have := getD_lt HS.out hnl; omega
      have ce := HGr.out.ce _ _ hx hy
      have HX : Hid (stepsL G ls fr (k + 1) = G.e (ls.getD k 0) (ls.getD (nxt ls.length fr k) 0)) := by show _ = _; rw [stepsL_succ, HM.out]; simp
      have HAF := after_is w.heap.size fr k ls wr (by omega) HLr
      have HNO : Hid (G.e (ls.getD k 0) (ls.getD (nxt ls.length fr k) 0) = false → goesL G (fsOf f) ls fr = false) := goesL_step G (fsOf f) ls fr k hlt
      obtain ⟨x, hxe⟩ : ∃ x, x = ls.getD k 0 := ⟨_, rfl⟩
      obtain ⟨j, hje⟩ : ∃ j, j = nxt ls.length fr k := ⟨_, rfl⟩
      rw [← hje] at cm hy ce HX HAF HNO hnl
      obtain ⟨y, hye⟩ : ∃ y, y = ls.getD j 0 := ⟨_, rfl⟩
      rw [← hxe] at ck hx ce HX HNO
      rw [← hye] at cm hy ce HX HNO
      clear hxe hje hye
      have j0 : (0 : Int) ≤ (j : Int) := by omega
      have j1 : (j : Int) < 40 := by omega
      have x0 : (0 : Int) ≤ (x : Int) := by omega
      have x1 : (x : Int) < 6 := by omega
      have y0 : (0 : Int) ≤ (y : Int) := by omega
      have y1 : (y : Int) < 6 := by omega
      obtain ⟨E, hE⟩ : ∃ E, E = G.e x y := ⟨_, rfl⟩
      rw [← hE] at ce HX HNO
      clear hE
      cases E with
      | false =>
        go_wp2_with (go_at_call 76; refine HAF.mono ?_; rintro e w1 ⟨rfl, rfl⟩)
        go_ret
        exact ⟨by rw [show goesL G (fsOf f) ls fr = false from by simpa using HNO.out]; rfl, hbr⟩
      | true =>
        go_wp2_with (go_at_call 76; refine HAF.mono ?_; rintro e w1 ⟨rfl, rfl⟩)
        go_roundw
        case rel => exact ⟨k + 1, by omega, by go_num, HX.out, HLr, HGr, hbr⟩
        case measure => simp [intOf]; omega
    · obtain rfl : k = ls.length := by omega
      have hlt2 : ¬ (ls.length : Int) < (ls.length : Int) := by omega
      have HGO : Hid (goesL G (fsOf f) ls fr = allMet G ls fr (tl f 0)) := by show _ = _; rw [goesL_of _ _ _ _ HM.out]; rfl
      have cf := HGr.out.cf
      go_wp2_with fail
      obtain ⟨wo, rfl⟩ : ∃ wo : World, wo = wr := ⟨_, rfl⟩
      go_loopw [8] (fun q wi => ∃ k : Nat, k ≤ f.size ∧ q = .int .i64 k ∧ Hid (allMet G ls fr (tl f k) = allMet G ls fr (tl f 0)) ∧ Hid (Ls wi w.heap.size ls fr) ∧ Hid (Wy wi b o G K f B) ∧ Below w.heap.size w wi) (fun q _ => f.size - (intOf q).toNat)
      case atStart => exact ⟨0, by omega, rfl, rfl, HLr, HGr, hbr⟩
      case round =>
        obtain ⟨k, hk2, rfl, HM2, HLi, HGi, hbi⟩ := hrel
        have cf := HGi.out.cf
        by_cases hlt : k < f.size
        · have hlt3 : (k : Int) < (f.size : Int) := by omega
          have HA := HAG f[k].toNat
          have HX : Hid (allMet G ls fr (tl f k) = (metL G ls fr f[k].toNat ls.length && allMet G ls fr (tl f (k + 1)))) := allMet_cons G ls fr hlt
          obtain ⟨E, hE⟩ : ∃ E, E = metL G ls fr f[k].toNat ls.length := ⟨_, rfl⟩
          rw [← hE] at HA HX
          clear hE
          cases E with
          | false =>
            go_wp2_with fail
            refine wp_region_held_drew (S := fun w' => w'.cell? ⟨b, o + 45, none⟩ = some (.string f) ∧ w'.rangeAt w.heap.size 0 C) (by kernel_rfl) ⟨HGi.out.cf, HCR.out _ (show Hid _ from HLi.out.drew)⟩ (fun hHeld => ?_)
            refine wpAnyH_take (i := 1) rfl (by kernel_rfl) (by kernel_rfl) (by kernel_rfl) (fun _ _ _ h => h) (yld42 w.heap.size C hCl (by rfl) _ (by rfl) (by rfl) (fun _ h => h.2)) hHeld ?_
            simp only [Act.put, List.setIfInBounds_toArray]
            refine wpAnyH_take (i := 0) (v := ?v1) rfl (by kernel_rfl) (by kernel_rfl) (by kernel_rfl) (fun _ _ _ h => h) (Or.inl ⟨by rfl, ?hy1⟩) hHeld ?rest1
            case hy1 =>
              intro W hW
              obtain ⟨hW1, hW2⟩ := hW
              go_simp
              try with_reducible rfl
            simp only [Act.put]
            refine wpAnyH_take (i := 2) (v := ?v2) rfl (by kernel_rfl) (by kernel_rfl) (by kernel_rfl) (fun _ _ _ h => h) (Or.inl ⟨by rfl, ?hy2⟩) hHeld ?rest2
            case hy2 =>
              intro W hW
              obtain ⟨hW1, hW2⟩ := hW
              go_simp
              try with_reducible rfl
            simp only [Act.put]
            refine wpAnyH_take (i := 3) (v := ?v3) rfl (by kernel_rfl) (by kernel_rfl) (by kernel_rfl) (fun _ _ _ h => h) (Or.inl ⟨by rfl, ?hy3⟩) hHeld ?rest3
            case hy3 =>
              intro W hW
              obtain ⟨hW1, hW2⟩ := hW
              go_simp
              try with_reducible rfl
            simp only [Act.put]
            refine wpAnyH_take (i := 4) (v := ?v4) rfl (by kernel_rfl) (by kernel_rfl) (by kernel_rfl) (fun _ _ _ h => h) (Or.inl ⟨by rfl, ?hy4⟩) hHeld ?rest4
            case hy4 =>
              intro W hW
              obtain ⟨hW1, hW2⟩ := hW
              go_simp
              try with_reducible rfl
            simp only [Act.put]
            refine wpAnyH_take (i := 5) (v := ?v5) rfl (by kernel_rfl) (by kernel_rfl) (by kernel_rfl) (fun _ _ _ h => h) (Or.inl ⟨by rfl, ?hy5⟩) hHeld ?rest5
            case hy5 =>
              intro W hW
              obtain ⟨hW1, hW2⟩ := hW
              go_simp
              try with_reducible rfl
            simp only [Act.put]
            refine wpAnyH_take (i := 6) (v := ?v6) rfl (by kernel_rfl) (by kernel_rfl) (by kernel_rfl) (fun _ _ _ h => h) (Or.inl ⟨by rfl, ?hy6⟩) hHeld ?rest6
            case hy6 =>
              intro W hW
              obtain ⟨hW1, hW2⟩ := hW
              go_simp
              try with_reducible rfl
            simp only [Act.put]
            refine wpAnyH_take (i := 7) (v := ?v7) rfl (by kernel_rfl) (by kernel_rfl) (by kernel_rfl) (fun _ _ _ h => h) (Or.inl ⟨by rfl, ?hy7⟩) hHeld ?rest7
            case hy7 =>
              intro W hW
              obtain ⟨hW1, hW2⟩ := hW
              go_simp
              try with_reducible rfl
            simp only [Act.put]
            refine wpAnyH_ready (rs := [8]) (by kernel_rfl) (by simp) ?_
            refine AllReadyH.cons rfl (fun KK hKK => ?_) AllReadyH.nil
            go_simp
            refine (HA _ (show Hid _ from HGi.out.drew)).mono ?_
            rintro e w4 ⟨rfl, hb4⟩
            have HL4 : Hid (Ls w4 w.heap.size ls fr) := HLi.out.drew.below hb4 HLi.out.lt
            have HG4 : Hid (Wy w4 b o G K f B) := HGi.out.drew.below hb4 HGi.out.lt
            clear hHeld
            go_wp2_with fail
            refine hKK.out _ _ ⟨HG4.out.cf, HCR.out _ HL4⟩ (fun hHeld => ?_)
            clear hKK KK
            refine wpAnyH_take (i := 9) (v := ?v8) rfl (by kernel_rfl) (by kernel_rfl) (by kernel_rfl) (fun _ _ _ h => h) (Or.inl ⟨by rfl, ?hy8⟩) hHeld ?rest8
            case hy8 =>
              intro W hW
              obtain ⟨hW1, hW2⟩ := hW
              go_simp
              try with_reducible rfl
            simp only [Act.put]
            refine wpAnyH_done (by kernel_rfl) ?_ _
            go_wp2_with fail
            go_ret
            exact ⟨by rw [HGO.out, ← HM2.out, HX.out]; rfl, Below.to hbi.drew hb4⟩
          | true =>
            go_wp2_with fail
            refine wp_region_held_drew (S := fun w' => w'.cell? ⟨b, o + 45, none⟩ = some (.string f) ∧ w'.rangeAt w.heap.size 0 C) (by kernel_rfl) ⟨HGi.out.cf, HCR.out _ (show Hid _ from HLi.out.drew)⟩ (fun hHeld => ?_)
            refine wpAnyH_take (i := 1) rfl (by kernel_rfl) (by kernel_rfl) (by kernel_rfl) (fun _ _ _ h => h) (yld42 w.heap.size C hCl (by rfl) _ (by rfl) (by rfl) (fun _ h => h.2)) hHeld ?_
            simp only [Act.put, List.setIfInBounds_toArray]
            refine wpAnyH_take (i := 0) (v := ?v21) rfl (by kernel_rfl) (by kernel_rfl) (by kernel_rfl) (fun _ _ _ h => h) (Or.inl ⟨by rfl, ?hy21⟩) hHeld ?rest21
            case hy21 =>
              intro W hW
              obtain ⟨hW1, hW2⟩ := hW
              go_simp
              try with_reducible rfl
            simp only [Act.put]
            refine wpAnyH_take (i := 2) (v := ?v22) rfl (by kernel_rfl) (by kernel_rfl) (by kernel_rfl) (fun _ _ _ h => h) (Or.inl ⟨by rfl, ?hy22⟩) hHeld ?rest22
            case hy22 =>
              intro W hW
              obtain ⟨hW1, hW2⟩ := hW
              go_simp
              try with_reducible rfl
            simp only [Act.put]
            refine wpAnyH_take (i := 3) (v := ?v23) rfl (by kernel_rfl) (by kernel_rfl) (by kernel_rfl) (fun _ _ _ h => h) (Or.inl ⟨by rfl, ?hy23⟩) hHeld ?rest23
            case hy23 =>
              intro W hW
              obtain ⟨hW1, hW2⟩ := hW
              go_simp
              try with_reducible rfl
            simp only [Act.put]
            refine wpAnyH_take (i := 4) (v := ?v24) rfl (by kernel_rfl) (by kernel_rfl) (by kernel_rfl) (fun _ _ _ h => h) (Or.inl ⟨by rfl, ?hy24⟩) hHeld ?rest24
            case hy24 =>
              intro W hW
              obtain ⟨hW1, hW2⟩ := hW
              go_simp
              try with_reducible rfl
            simp only [Act.put]
            refine wpAnyH_take (i := 5) (v := ?v25) rfl (by kernel_rfl) (by kernel_rfl) (by kernel_rfl) (fun _ _ _ h => h) (Or.inl ⟨by rfl, ?hy25⟩) hHeld ?rest25
            case hy25 =>
              intro W hW
              obtain ⟨hW1, hW2⟩ := hW
              go_simp
              try with_reducible rfl
            simp only [Act.put]
            refine wpAnyH_take (i := 6) (v := ?v26) rfl (by kernel_rfl) (by kernel_rfl) (by kernel_rfl) (fun _ _ _ h => h) (Or.inl ⟨by rfl, ?hy26⟩) hHeld ?rest26
            case hy26 =>
              intro W hW
              obtain ⟨hW1, hW2⟩ := hW
              go_simp
              try with_reducible rfl
            simp only [Act.put]
            refine wpAnyH_take (i := 7) (v := ?v27) rfl (by kernel_rfl) (by kernel_rfl) (by kernel_rfl) (fun _ _ _ h => h) (Or.inl ⟨by rfl, ?hy27⟩) hHeld ?rest27
            case hy27 =>
              intro W hW
              obtain ⟨hW1, hW2⟩ := hW
              go_simp
              try with_reducible rfl
            simp only [Act.put]
            refine wpAnyH_ready (rs := [8]) (by kernel_rfl) (by simp) ?_
            refine AllReadyH.cons rfl (fun KK hKK => ?_) AllReadyH.nil
            go_simp
            refine (HA _ (show Hid _ from HGi.out.drew)).mono ?_
            rintro e w4 ⟨rfl, hb4⟩
            have HL4 : Hid (Ls w4 w.heap.size ls fr) := HLi.out.drew.below hb4 HLi.out.lt
            have HG4 : Hid (Wy w4 b o G K f B) := HGi.out.drew.below hb4 HGi.out.lt
            clear hHeld
            go_wp2_with fail
            refine hKK.out _ _ ⟨HG4.out.cf, HCR.out _ HL4⟩ (fun hHeld => ?_)
            clear hKK KK
            refine wpAnyH_take (i := 9) (v := ?v28) rfl (by kernel_rfl) (by kernel_rfl) (by kernel_rfl) (fun _ _ _ h => h) (Or.inl ⟨by rfl, ?hy28⟩) hHeld ?rest28
            case hy28 =>
              intro W hW
              obtain ⟨hW1, hW2⟩ := hW
              go_simp
              try with_reducible rfl
            simp only [Act.put]
            refine wpAnyH_done (by kernel_rfl) ?_ _
            go_wp2_with fail
            go_roundw
            case rel => exact ⟨k + 1, by omega, by go_num, by show _ = _; rw [← HM2.out, HX.out]; rfl, HL4, HG4, Below.to hbi.drew hb4⟩
            case measure => simp [intOf]; omega
        · obtain rfl : k = f.size := by omega
          have hlt3 : ¬ (f.size : Int) < (f.size : Int) := by omega
          have HN : Hid (allMet G ls fr (tl f f.size) = true) := allMet_nil G ls fr (Nat.le_refl _)
          go_wp2_with fail
          go_ret
          exact ⟨by rw [HGO.out, ← HM2.out, HN.out]; rfl, hbi⟩

end Go.Proofs.Ytcfbfdjmcabnkaa

