import Derived.Test.YtcfbfdjmcabnkabGreatGR1
set_option maxRecDepth 100000
set_option maxHeartbeats 4000000
namespace Go.Proofs.YtcfbfdjmcabnkabGreat
open Go.RowKit Fw
open Go.Deep (BT)
set_option linter.unusedVariables false
theorem Tryz.size166 : (Tryz.prog.info? 166).map (·.size) = some 42 := by kernel_rfl
theorem Tryz.row166 : ∃ d, Tryz.prog.underlying 166 = some d ∧ d.isRow = true := ⟨_, Tryz.underlying166, rfl⟩
theorem ls_new (w : World) {C : List Value} {ls : List Nat} {fr : Nat} (hC : C = lasC ls ls.length fr) (hle : ls.length <= 40) (t : TypeId) : Ls (w.alloc (.cells C.toArray t)) w.heap.size ls fr := by
 have hh := heap_alloc_new w (.cells C.toArray t)
 have hc : ∀ j, (w.alloc (.cells C.toArray t)).cell? ⟨w.heap.size, j, none⟩ = C[j]? := by
   intro j
   rw [cell_of_row _ _ _ _ _ _ hh]
   simp
 refine ⟨by simp, hle, fun i hi => ?_, ?_, ?_, fun o ho => frozen_of_row _ _ _ _ _ hh⟩
 · rw [hc, hC, lasC_at _ _ _ _ hi]
 · rw [hc, hC, lasC_n]
 · rw [hc, hC, lasC_f]
theorem metL_low (G : Gph) (ls : List Nat) (fr c : Nat) : ∀ k, k <= fr -> metL G ls fr c k = false := by
 intro k
 induction k with
 | zero => intro _; rfl
 | succ k ih =>
   intro h
   rw [metL_succ, ih (by omega), show decide (fr <= k) = false from by simp; omega]
   rfl
theorem Wy.drewN {w : World} {b o : Nat} {G : Gph} {K : Nat -> ByteArray} {f : ByteArray} {B : Nat -> Bool} (h : Wy w b o G K f B) (n : Nat) : Wy (w.drewN n) b o G K f B := h.below (below_drewN (Below.refl _ _) n) h.lt
theorem metL_up {G : Gph} {ls : List Nat} {fr c k n : Nat} (h : metL G ls fr c k = true) (hk : k <= n) : metL G ls fr c n = true := by
 unfold metL at h ⊢
 rw [List.any_eq_true] at h ⊢
 obtain ⟨j, hj, hm⟩ := h
 exact ⟨j, List.mem_range.2 (by have := List.mem_range.1 hj; omega), hm⟩
theorem getD_lt {ls : List Nat} {n k : Nat} (h : ∀ y ∈ ls, y < n) (hk : k < ls.length) : ls.getD k 0 < n := by
 rw [List.getD_eq_getElem?_getD, List.getElem?_eq_getElem hk, Option.getD_some]
 exact h _ (List.getElem_mem hk)
theorem again_is (b o fr c : Nat) (ls : List Nat) (G : Gph) (K : Nat → ByteArray) (f : ByteArray) (B : Nat → Bool) (C : List Value) (hC : C = lasC ls ls.length fr) (w : World) (hle : ls.length ≤ 40) (hf : fr ≤ ls.length) (hls : ∀ y ∈ ls, y < G.n) (HG : Hid (Wy w b o G K f B)) :
   Calls Tryz.prog 133 #[.pointer (some ⟨b, o, none⟩), .agg C.toArray, .int .u8 (c : Int)] w fun e w' => e = .returned (.bool (metL G ls fr c ls.length)) ∧ Below w.heap.size w w' := by
 have HL : Hid (Ls (w.alloc (.cells C.toArray 166)) w.heap.size ls fr) := ls_new w hC hle 166
 have hbl := HG.out.lt
 have hn6 := HG.out.n6
 have HS : Hid (∀ y ∈ ls, y < G.n) := hls
 have HG0 : Hid (Wy (w.alloc (.cells C.toArray 166)) b o G K f B) := HG.out.below ((Below.refl _ _).alloc (Nat.le_refl _) _) hbl
 have hb0 : Below w.heap.size w (w.alloc (.cells C.toArray 166)) := (Below.refl _ _).alloc (Nat.le_refl _) _
 have q41 : C[41]? = some (.int .i64 (fr : Int)) := by rw [hC, lasC_f]
 have q40 : C[40]? = some (.int .i64 (ls.length : Int)) := by rw [hC, lasC_n]
 have cn := HL.out.cn
 have cf := HL.out.cf
 clear hC hls
 go_enter Tryz.func133, Tryz.ntmps133
 go_wp2_with fail
 go_loopw [7] (fun q wr => ∃ k : Nat, fr <= k ∧ k <= ls.length ∧ q = .int .i64 k ∧ Hid (metL G ls fr c k = false) ∧ Hid (Ls wr w.heap.size ls fr) ∧ Hid (Wy wr b o G K f B) ∧ Below w.heap.size w wr) (fun q _ => ls.length - (intOf q).toNat)
 case atStart => exact ⟨fr, by omega, hf, rfl, metL_low _ _ _ _ _ (Nat.le_refl _), HL, HG0, hb0⟩
 case round =>
   obtain ⟨k, hk1, hk2, rfl, HM, HLr, HGr, hbr⟩ := hrel
   have cn := HLr.out.cn
   by_cases hlt : k < ls.length
   · have hlt2 : (k : Int) < (ls.length : Int) := by omega
     have ck := HLr.out.c k (by omega)
     have k0 : (0 : Int) <= (k : Int) := by omega
     have k1 : (k : Int) < 40 := by omega
     have hx : ls.getD k 0 < 6 := by have := getD_lt HS.out hlt; omega
     have HX : Hid (metL G ls fr c (k + 1) = G.m (ls.getD k 0) c) := by show _ = _; rw [metL_succ, HM.out, show decide (fr <= k) = true from by simpa using hk1]; simp
     obtain ⟨x, hxe⟩ : ∃ x, x = ls.getD k 0 := ⟨_, rfl⟩
     rw [<- hxe] at ck hx HX
     clear hxe
     have HBE := fun W (h : Hid (Wy W b o G K f B)) => bearsP_is b o x c G K f B W hx h
     cases hm : G.m x c with
     | true =>
       rw [hm] at HBE HX
       clear hm
       go_wp2_with fail
       go_quiet ((go_at_call 115; exact Calls.quiet_of_same (HBE _ (by first | exact HGr | exact HGr.out.drew | exact HGr.out.drewN _))))
       go_wp2_with fail
       go_ret
       exact ⟨by rw [metL_up HX.out (by omega)]; rfl, below_drewN hbr _⟩
     | false =>
       rw [hm] at HBE HX
       clear hm
       go_wp2_with fail
       go_quiet ((go_at_call 115; exact Calls.quiet_of_same (HBE _ (by first | exact HGr | exact HGr.out.drew | exact HGr.out.drewN _))))
       go_wp2_with fail
       go_roundw
       case rel => exact ⟨k + 1, by omega, by omega, by go_num, HX.out, HLr.out.drewN _, HGr.out.drewN _, below_drewN hbr _⟩
       case measure => simp [intOf]; omega
   · obtain rfl : k = ls.length := by omega
     have hlt2 : ¬ (ls.length : Int) < (ls.length : Int) := by omega
     go_wp2_with fail
     go_ret
     exact ⟨by rw [HM.out]; rfl, hbr⟩
theorem goesL_step (G : Gph) (fs ls : List Nat) (fr k : Nat) (hk : k < ls.length) (h : G.e (ls.getD k 0) (ls.getD (nxt ls.length fr k) 0) = false) : goesL G fs ls fr = false := by
 unfold goesL
 have : stepsL G ls fr ls.length = false := by
   rw [<- Bool.not_eq_true]
   intro h2
   unfold stepsL at h2
   rw [List.all_eq_true] at h2
   have := h2 k (List.mem_range.2 hk)
   rw [h] at this
   cases this
 rw [this]
 rfl
theorem goesL_of (G : Gph) (fs ls : List Nat) (fr : Nat) (h : stepsL G ls fr ls.length = true) : goesL G fs ls fr = fs.all fun f => metL G ls fr f ls.length := by
 unfold goesL
 rw [h]
 rfl
theorem yld42 {ops : Array Oper} {S : World -> Prop} {op : Oper} {a : Act} (H : Nat) (L : List Value) (hl : L.length = 42) (hw : Region.wanted op (yielded ops a.tmps) = true) (x : Operand) (ho : op.op = .load 166 x) (hx : a.eval x = .pointer (some ⟨H, 0, none⟩)) (hS : ∀ w, S w -> w.rangeAt H 0 L) : YieldsIf Tryz.prog ops S op (.agg L.toArray) a := by
 obtain ⟨d, hu, hd⟩ := Tryz.row166
 exact yieldsIf_load_mid hw 166 x ho H 0 hx L d hS hu hd (by rw [hl]; exact Tryz.size166)
def allMet (G : Gph) (ls : List Nat) (fr : Nat) (l : List UInt8) : Bool := (l.map (·.toNat)).all fun f => metL G ls fr f ls.length
theorem allMet_nil (G : Gph) (ls : List Nat) (fr : Nat) {s : ByteArray} {k : Nat} (h : s.size <= k) : allMet G ls fr (tl s k) = true := by
 rw [tl_nil s k h]; rfl
theorem allMet_cons (G : Gph) (ls : List Nat) (fr : Nat) {s : ByteArray} {k : Nat} (h : k < s.size) : allMet G ls fr (tl s k) = (metL G ls fr s[k].toNat ls.length && allMet G ls fr (tl s (k + 1))) := by
 rw [tl_cons s k h]; rfl
theorem fairway_is (b o fr : Nat) (ls : List Nat) (G : Gph) (K : Nat → ByteArray) (f : ByteArray) (B : Nat → Bool) (C : List Value) (hC : C = lasC ls ls.length fr) (w : World) (hle : ls.length ≤ 40) (hf : fr < ls.length) (hls : ∀ y ∈ ls, y < G.n) (hfz : f.size ≤ 1000) (HG : Hid (Wy w b o G K f B)) :
   Calls Tryz.prog 130 #[.pointer (some ⟨b, o, none⟩), .agg C.toArray] w fun e w' => e = .returned (.bool (goesL G (fsOf f) ls fr)) ∧ Below w.heap.size w w' := by
 have HL : Hid (Ls (w.alloc (.cells C.toArray 166)) w.heap.size ls fr) := ls_new w hC hle 166
 have hbl := HG.out.lt
 have hn6 := HG.out.n6
 have HS : Hid (∀ y ∈ ls, y < G.n) := hls
 have HG0 : Hid (Wy (w.alloc (.cells C.toArray 166)) b o G K f B) := HG.out.below ((Below.refl _ _).alloc (Nat.le_refl _) _) hbl
 have hb0 : Below w.heap.size w (w.alloc (.cells C.toArray 166)) := (Below.refl _ _).alloc (Nat.le_refl _) _
 have HCC : Hid (C = lasC ls ls.length fr) := hC
 have HAG := fun c W (h : Hid (Wy W b o G K f B)) => again_is b o fr c ls G K f B C hC W hle (by omega) hls h
 have HCR : Hid (∀ W : World, Hid (Ls W w.heap.size ls fr) -> W.rangeAt w.heap.size 0 C) := fun W h => by rw [hC]; exact h.out.range
 have hCl : C.length = 42 := by rw [hC]; exact lasC_len _ _ _
 clear hC hls
 go_enter Tryz.func130, Tryz.ntmps130
 go_wp2_with fail
 go_loopw [5] (fun q wr => ∃ k : Nat, k <= ls.length ∧ q = .int .i64 k ∧ Hid (stepsL G ls fr k = true) ∧ Hid (Ls wr w.heap.size ls fr) ∧ Hid (Wy wr b o G K f B) ∧ Below w.heap.size w wr) (fun q _ => ls.length - (intOf q).toNat)
 case atStart => exact ⟨0, by omega, rfl, rfl, HL, HG0, hb0⟩
 case round =>
   obtain ⟨k, hk2, rfl, HM, HLr, HGr, hbr⟩ := hrel
   have cn := HLr.out.cn
   by_cases hlt : k < ls.length
   · have hlt2 : (k : Int) < (ls.length : Int) := by omega
     have hnl : nxt ls.length fr k < ls.length := by unfold nxt; split <;> omega
     have ck := HLr.out.c k (by omega)
     have cm := HLr.out.c (nxt ls.length fr k) (by omega)
     have k0 : (0 : Int) <= (k : Int) := by omega
     have k1 : (k : Int) < 40 := by omega
     have hx : ls.getD k 0 < 6 := by have := getD_lt HS.out hlt; omega
     have hy : ls.getD (nxt ls.length fr k) 0 < 6 := by have := getD_lt HS.out hnl; omega
     have ce := HGr.out.ce _ _ hx hy
     have HX : Hid (stepsL G ls fr (k + 1) = G.e (ls.getD k 0) (ls.getD (nxt ls.length fr k) 0)) := by show _ = _; rw [stepsL_succ, HM.out]; simp
     have HAF := after_is w.heap.size fr k ls wr (by omega) HLr
     have HNO : Hid (G.e (ls.getD k 0) (ls.getD (nxt ls.length fr k) 0) = false -> goesL G (fsOf f) ls fr = false) := goesL_step G (fsOf f) ls fr k hlt
     obtain ⟨x, hxe⟩ : ∃ x, x = ls.getD k 0 := ⟨_, rfl⟩
     obtain ⟨j, hje⟩ : ∃ j, j = nxt ls.length fr k := ⟨_, rfl⟩
     rw [<- hje] at cm hy ce HX HAF HNO hnl
     obtain ⟨y, hye⟩ : ∃ y, y = ls.getD j 0 := ⟨_, rfl⟩
     rw [<- hxe] at ck hx ce HX HNO
     rw [<- hye] at cm hy ce HX HNO
     clear hxe hje hye
     have j0 : (0 : Int) <= (j : Int) := by omega
     have j1 : (j : Int) < 40 := by omega
     have x0 : (0 : Int) <= (x : Int) := by omega
     have x1 : (x : Int) < 6 := by omega
     have y0 : (0 : Int) <= (y : Int) := by omega
     have y1 : (y : Int) < 6 := by omega
     obtain ⟨E, hE⟩ : ∃ E, E = G.e x y := ⟨_, rfl⟩
     rw [<- hE] at ce HX HNO
     clear hE
     cases E with
     | false =>
       go_wp2_with (go_at_call 113; refine HAF.mono ?_; rintro e w1 ⟨rfl, rfl⟩)
       go_ret
       exact ⟨by rw [show goesL G (fsOf f) ls fr = false from by simpa using HNO.out]; rfl, hbr⟩
     | true =>
       go_wp2_with (go_at_call 113; refine HAF.mono ?_; rintro e w1 ⟨rfl, rfl⟩)
       go_roundw
       case rel => exact ⟨k + 1, by omega, by go_num, HX.out, HLr, HGr, hbr⟩
       case measure => simp [intOf]; omega
   · obtain rfl : k = ls.length := by omega
     have hlt2 : ¬ (ls.length : Int) < (ls.length : Int) := by omega
     have HGO : Hid (goesL G (fsOf f) ls fr = allMet G ls fr (tl f 0)) := by show _ = _; rw [goesL_of _ _ _ _ HM.out]; rfl
     have cf := HGr.out.cf
     go_wp2_with fail
     obtain ⟨wo, rfl⟩ : ∃ wo : World, wo = wr := ⟨_, rfl⟩
     go_loopw [8] (fun q wi => ∃ k : Nat, k <= f.size ∧ q = .int .i64 k ∧ Hid (allMet G ls fr (tl f k) = allMet G ls fr (tl f 0)) ∧ Hid (Ls wi w.heap.size ls fr) ∧ Hid (Wy wi b o G K f B) ∧ Below w.heap.size w wi) (fun q _ => f.size - (intOf q).toNat)
     case atStart => exact ⟨0, by omega, rfl, rfl, HLr, HGr, hbr⟩
     case round =>
       obtain ⟨k, hk2, rfl, HM2, HLi, HGi, hbi⟩ := hrel
       have cf := HGi.out.cf
       by_cases hlt : k < f.size
       · have hlt3 : (k : Int) < (f.size : Int) := by omega
         have HA := HAG f[k].toNat
         have HX : Hid (allMet G ls fr (tl f k) = (metL G ls fr f[k].toNat ls.length && allMet G ls fr (tl f (k + 1)))) := allMet_cons G ls fr hlt
         obtain ⟨E, hE⟩ : ∃ E, E = metL G ls fr f[k].toNat ls.length := ⟨_, rfl⟩
         rw [<- hE] at HA HX
         clear hE
         cases E with
         | false =>
           go_wp2_with fail
           refine wp_region_held_drew (S := fun w' => w'.cell? ⟨b, o + 45, none⟩ = some (.string f) ∧ w'.rangeAt w.heap.size 0 C) (by kernel_rfl) ⟨HGi.out.cf, HCR.out _ (show Hid _ from HLi.out.drew)⟩ (fun hHeld => ?_)
           refine wpAnyH_take (i := 1) rfl (by kernel_rfl) (by kernel_rfl) (by kernel_rfl) (fun _ _ _ h => h) (yld42 w.heap.size C hCl (by rfl) _ (by rfl) (by rfl) (fun _ h => h.2)) hHeld ?_
           simp only [Act.put, List.setIfInBounds_toArray]
           refine wpAnyH_take (i := 0) (v := ?v1) rfl (by kernel_rfl) (by kernel_rfl) (by kernel_rfl) (fun _ _ _ h => h) (Or.inl ⟨by rfl, ?hy1⟩) hHeld ?rest1
           case hy1 =>
             intro W hW
             obtain ⟨hW1, hW2⟩ := hW
             go_simp
             try with_reducible rfl
           simp only [Act.put]
           refine wpAnyH_take (i := 2) (v := ?v2) rfl (by kernel_rfl) (by kernel_rfl) (by kernel_rfl) (fun _ _ _ h => h) (Or.inl ⟨by rfl, ?hy2⟩) hHeld ?rest2
           case hy2 =>
             intro W hW
             obtain ⟨hW1, hW2⟩ := hW
             go_simp
             try with_reducible rfl
           simp only [Act.put]
           refine wpAnyH_take (i := 3) (v := ?v3) rfl (by kernel_rfl) (by kernel_rfl) (by kernel_rfl) (fun _ _ _ h => h) (Or.inl ⟨by rfl, ?hy3⟩) hHeld ?rest3
           case hy3 =>
             intro W hW
             obtain ⟨hW1, hW2⟩ := hW
             go_simp
             try with_reducible rfl
           simp only [Act.put]
           refine wpAnyH_take (i := 4) (v := ?v4) rfl (by kernel_rfl) (by kernel_rfl) (by kernel_rfl) (fun _ _ _ h => h) (Or.inl ⟨by rfl, ?hy4⟩) hHeld ?rest4
           case hy4 =>
             intro W hW
             obtain ⟨hW1, hW2⟩ := hW
             go_simp
             try with_reducible rfl
           simp only [Act.put]
           refine wpAnyH_take (i := 5) (v := ?v5) rfl (by kernel_rfl) (by kernel_rfl) (by kernel_rfl) (fun _ _ _ h => h) (Or.inl ⟨by rfl, ?hy5⟩) hHeld ?rest5
           case hy5 =>
             intro W hW
             obtain ⟨hW1, hW2⟩ := hW
             go_simp
             try with_reducible rfl
           simp only [Act.put]
           refine wpAnyH_take (i := 6) (v := ?v6) rfl (by kernel_rfl) (by kernel_rfl) (by kernel_rfl) (fun _ _ _ h => h) (Or.inl ⟨by rfl, ?hy6⟩) hHeld ?rest6
           case hy6 =>
             intro W hW
             obtain ⟨hW1, hW2⟩ := hW
             go_simp
             try with_reducible rfl
           simp only [Act.put]
           refine wpAnyH_take (i := 7) (v := ?v7) rfl (by kernel_rfl) (by kernel_rfl) (by kernel_rfl) (fun _ _ _ h => h) (Or.inl ⟨by rfl, ?hy7⟩) hHeld ?rest7
           case hy7 =>
             intro W hW
             obtain ⟨hW1, hW2⟩ := hW
             go_simp
             try with_reducible rfl
           simp only [Act.put]
           refine wpAnyH_ready (rs := [8]) (by kernel_rfl) (by simp) ?_
           refine AllReadyH.cons rfl (fun KK hKK => ?_) AllReadyH.nil
           go_simp
           refine (HA _ (show Hid _ from HGi.out.drew)).mono ?_
           rintro e w4 ⟨rfl, hb4⟩
           have HL4 : Hid (Ls w4 w.heap.size ls fr) := HLi.out.drew.below hb4 HLi.out.lt
           have HG4 : Hid (Wy w4 b o G K f B) := HGi.out.drew.below hb4 HGi.out.lt
           clear hHeld
           go_wp2_with fail
           refine hKK.out _ _ ⟨HG4.out.cf, HCR.out _ HL4⟩ (fun hHeld => ?_)
           clear hKK KK
           refine wpAnyH_take (i := 9) (v := ?v8) rfl (by kernel_rfl) (by kernel_rfl) (by kernel_rfl) (fun _ _ _ h => h) (Or.inl ⟨by rfl, ?hy8⟩) hHeld ?rest8
           case hy8 =>
             intro W hW
             obtain ⟨hW1, hW2⟩ := hW
             go_simp
             try with_reducible rfl
           simp only [Act.put]
           refine wpAnyH_done (by kernel_rfl) ?_ _
           go_wp2_with fail
           go_ret
           exact ⟨by rw [HGO.out, <- HM2.out, HX.out]; rfl, Below.to hbi.drew hb4⟩
         | true =>
           go_wp2_with fail
           refine wp_region_held_drew (S := fun w' => w'.cell? ⟨b, o + 45, none⟩ = some (.string f) ∧ w'.rangeAt w.heap.size 0 C) (by kernel_rfl) ⟨HGi.out.cf, HCR.out _ (show Hid _ from HLi.out.drew)⟩ (fun hHeld => ?_)
           refine wpAnyH_take (i := 1) rfl (by kernel_rfl) (by kernel_rfl) (by kernel_rfl) (fun _ _ _ h => h) (yld42 w.heap.size C hCl (by rfl) _ (by rfl) (by rfl) (fun _ h => h.2)) hHeld ?_
           simp only [Act.put, List.setIfInBounds_toArray]
           refine wpAnyH_take (i := 0) (v := ?v21) rfl (by kernel_rfl) (by kernel_rfl) (by kernel_rfl) (fun _ _ _ h => h) (Or.inl ⟨by rfl, ?hy21⟩) hHeld ?rest21
           case hy21 =>
             intro W hW
             obtain ⟨hW1, hW2⟩ := hW
             go_simp
             try with_reducible rfl
           simp only [Act.put]
           refine wpAnyH_take (i := 2) (v := ?v22) rfl (by kernel_rfl) (by kernel_rfl) (by kernel_rfl) (fun _ _ _ h => h) (Or.inl ⟨by rfl, ?hy22⟩) hHeld ?rest22
           case hy22 =>
             intro W hW
             obtain ⟨hW1, hW2⟩ := hW
             go_simp
             try with_reducible rfl
           simp only [Act.put]
           refine wpAnyH_take (i := 3) (v := ?v23) rfl (by kernel_rfl) (by kernel_rfl) (by kernel_rfl) (fun _ _ _ h => h) (Or.inl ⟨by rfl, ?hy23⟩) hHeld ?rest23
           case hy23 =>
             intro W hW
             obtain ⟨hW1, hW2⟩ := hW
             go_simp
             try with_reducible rfl
           simp only [Act.put]
           refine wpAnyH_take (i := 4) (v := ?v24) rfl (by kernel_rfl) (by kernel_rfl) (by kernel_rfl) (fun _ _ _ h => h) (Or.inl ⟨by rfl, ?hy24⟩) hHeld ?rest24
           case hy24 =>
             intro W hW
             obtain ⟨hW1, hW2⟩ := hW
             go_simp
             try with_reducible rfl
           simp only [Act.put]
           refine wpAnyH_take (i := 5) (v := ?v25) rfl (by kernel_rfl) (by kernel_rfl) (by kernel_rfl) (fun _ _ _ h => h) (Or.inl ⟨by rfl, ?hy25⟩) hHeld ?rest25
           case hy25 =>
             intro W hW
             obtain ⟨hW1, hW2⟩ := hW
             go_simp
             try with_reducible rfl
           simp only [Act.put]
           refine wpAnyH_take (i := 6) (v := ?v26) rfl (by kernel_rfl) (by kernel_rfl) (by kernel_rfl) (fun _ _ _ h => h) (Or.inl ⟨by rfl, ?hy26⟩) hHeld ?rest26
           case hy26 =>
             intro W hW
             obtain ⟨hW1, hW2⟩ := hW
             go_simp
             try with_reducible rfl
           simp only [Act.put]
           refine wpAnyH_take (i := 7) (v := ?v27) rfl (by kernel_rfl) (by kernel_rfl) (by kernel_rfl) (fun _ _ _ h => h) (Or.inl ⟨by rfl, ?hy27⟩) hHeld ?rest27
           case hy27 =>
             intro W hW
             obtain ⟨hW1, hW2⟩ := hW
             go_simp
             try with_reducible rfl
           simp only [Act.put]
           refine wpAnyH_ready (rs := [8]) (by kernel_rfl) (by simp) ?_
           refine AllReadyH.cons rfl (fun KK hKK => ?_) AllReadyH.nil
           go_simp
           refine (HA _ (show Hid _ from HGi.out.drew)).mono ?_
           rintro e w4 ⟨rfl, hb4⟩
           have HL4 : Hid (Ls w4 w.heap.size ls fr) := HLi.out.drew.below hb4 HLi.out.lt
           have HG4 : Hid (Wy w4 b o G K f B) := HGi.out.drew.below hb4 HGi.out.lt
           clear hHeld
           go_wp2_with fail
           refine hKK.out _ _ ⟨HG4.out.cf, HCR.out _ HL4⟩ (fun hHeld => ?_)
           clear hKK KK
           refine wpAnyH_take (i := 9) (v := ?v28) rfl (by kernel_rfl) (by kernel_rfl) (by kernel_rfl) (fun _ _ _ h => h) (Or.inl ⟨by rfl, ?hy28⟩) hHeld ?rest28
           case hy28 =>
             intro W hW
             obtain ⟨hW1, hW2⟩ := hW
             go_simp
             try with_reducible rfl
           simp only [Act.put]
           refine wpAnyH_done (by kernel_rfl) ?_ _
           go_wp2_with fail
           go_roundw
           case rel => exact ⟨k + 1, by omega, by go_num, by show _ = _; rw [<- HM2.out, HX.out]; rfl, HL4, HG4, Below.to hbi.drew hb4⟩
           case measure => simp [intOf]; omega
       · obtain rfl : k = f.size := by omega
         have hlt3 : ¬ (f.size : Int) < (f.size : Int) := by omega
         have HN : Hid (allMet G ls fr (tl f f.size) = true) := allMet_nil G ls fr (Nat.le_refl _)
         go_wp2_with fail
         go_ret
         exact ⟨by rw [HGO.out, <- HM2.out, HN.out]; rfl, hbi⟩
def digA (n : Nat) (s : ByteArray) (p : Nat) : List Nat := dig n 40 (tl s (p + 1))
def digB (n : Nat) (s : ByteArray) (p : Nat) : List Nat := dig n (40 - (digA n s p).length) (tl s (p + 1 + (digA n s p).length + 1))
theorem las_eq (n : Nat) (s : ByteArray) (p : Nat) : las n s p =
   if isAt s p 91 = true ∧ isAt s (p + 1 + (digA n s p).length) 40 = true ∧ isAt s (p + 1 + (digA n s p).length + 1 + (digB n s p).length) 41 = true ∧ isAt s (p + 1 + (digA n s p).length + 1 + (digB n s p).length + 1) 93 = true ∧ digB n s p ≠ [] then
     some (digA n s p ++ digB n s p, (digA n s p).length, p + 1 + (digA n s p).length + 1 + (digB n s p).length + 2) else none := rfl
theorem las_no1 {n : Nat} {s : ByteArray} {p : Nat} (h : isAt s p 91 = false) : las n s p = none := by
 rw [las_eq, if_neg]; rintro ⟨h1, _⟩; rw [h] at h1; cases h1
theorem las_no2 {n : Nat} {s : ByteArray} {p : Nat} (h : isAt s (p + 1 + (digA n s p).length) 40 = false) : las n s p = none := by
 rw [las_eq, if_neg]; rintro ⟨_, h1, _⟩; rw [h] at h1; cases h1
theorem las_no3 {n : Nat} {s : ByteArray} {p : Nat} (h : isAt s (p + 1 + (digA n s p).length + 1 + (digB n s p).length) 41 = false) : las n s p = none := by
 rw [las_eq, if_neg]; rintro ⟨_, _, h1, _⟩; rw [h] at h1; cases h1
theorem las_no4 {n : Nat} {s : ByteArray} {p : Nat} (h : isAt s (p + 1 + (digA n s p).length + 1 + (digB n s p).length + 1) 93 = false) : las n s p = none := by
 rw [las_eq, if_neg]; rintro ⟨_, _, _, h1, _⟩; rw [h] at h1; cases h1
theorem las_no5 {n : Nat} {s : ByteArray} {p : Nat} (h : digB n s p = []) : las n s p = none := by
 rw [las_eq, if_neg]; rintro ⟨_, _, _, _, h1⟩; exact h1 h
theorem las_yes {n : Nat} {s : ByteArray} {p : Nat} (h1 : isAt s p 91 = true) (h2 : isAt s (p + 1 + (digA n s p).length) 40 = true) (h3 : isAt s (p + 1 + (digA n s p).length + 1 + (digB n s p).length) 41 = true) (h4 : isAt s (p + 1 + (digA n s p).length + 1 + (digB n s p).length + 1) 93 = true) (h5 : digB n s p ≠ []) :
   las n s p = some (digA n s p ++ digB n s p, (digA n s p).length, p + 1 + (digA n s p).length + 1 + (digB n s p).length + 2) := by
 rw [las_eq, if_pos ⟨h1, h2, h3, h4, h5⟩]
theorem lasG_none {G : Gph} {fs : List Nat} {s : ByteArray} {i p : Nat} (h : las G.n s p = none) : lasG G fs s i p = none := by unfold lasG; rw [h]
theorem lasG_no {G : Gph} {fs : List Nat} {s : ByteArray} {i p : Nat} {x : List Nat × Nat × Nat} (h : las G.n s p = some x) (hn : ¬ (x.1.getD 0 0 = i ∧ goesL G fs x.1 x.2.1 = true)) : lasG G fs s i p = none := by unfold lasG; rw [h]; exact if_neg hn
theorem lasG_yes {G : Gph} {fs : List Nat} {s : ByteArray} {i p : Nat} {x : List Nat × Nat × Nat} (h : las G.n s p = some x) (hn : x.1.getD 0 0 = i ∧ goesL G fs x.1 x.2.1 = true) : lasG G fs s i p = some x := by unfold lasG; rw [h]; exact if_pos hn
def LaOut (st p : Nat) (G : Gph) (fs : List Nat) (s : ByteArray) (b g cap : Nat) (K : Nat -> ByteArray) (f : ByteArray) (B : Nat -> Bool) (ns : List Nd) (w : World) (e : Ending) (w' : World) : Prop :=
 ∃ (C : List Value) (q : Nat), C.length = 42 ∧ C.toArray.all (·.oneCell') = true ∧ Cr w' b g cap G K f B ns s q ∧ q <= s.size ∧ Kq b w w' ∧
   ((lasG G fs s st p = none ∧ e = .returned (.tuple #[.agg C.toArray, .bool false])) ∨ ∃ x, lasG G fs s st p = some x ∧ C = lasC x.1 x.1.length x.2.1 ∧ q = x.2.2 ∧ e = .returned (.tuple #[.agg C.toArray, .bool true]))
theorem resultLas (tmps : Array Value) (w : World) (b : Nat) (cs : List Value) (v : Value) (hp : tmps.getD 4 undef = .pointer (some ⟨b, 0, none⟩)) (hq : tmps.getD 5 undef = v) (hc : w.rangeAt b 0 cs) (hl : cs.length = 42) :
   (results Tryz.f112 tmps).run Tryz.prog w = .ok (.tuple #[.agg cs.toArray, v]) w := by
 obtain ⟨d, hu, hd⟩ := Tryz.row166
 have hp' : tmps[4]?.getD undef = .pointer (some ⟨b, 0, none⟩) := by simpa using hp
 have hq' : tmps[5]?.getD undef = v := by simpa using hq
 simp [results, Tryz.results112, hp', hq', asAddr, run_loadVar_mid w b 0 166 cs d hc hu hd (by rw [hl]; exact Tryz.size166)]
theorem zero42 : (#[.int .i64 0, .int .i64 0, .int .i64 0, .int .i64 0, .int .i64 0, .int .i64 0, .int .i64 0, .int .i64 0, .int .i64 0, .int .i64 0, .int .i64 0, .int .i64 0, .int .i64 0, .int .i64 0, .int .i64 0, .int .i64 0, .int .i64 0, .int .i64 0, .int .i64 0, .int .i64 0, .int .i64 0, .int .i64 0, .int .i64 0, .int .i64 0, .int .i64 0, .int .i64 0, .int .i64 0, .int .i64 0, .int .i64 0, .int .i64 0, .int .i64 0, .int .i64 0, .int .i64 0, .int .i64 0, .int .i64 0, .int .i64 0, .int .i64 0, .int .i64 0, .int .i64 0, .int .i64 0, .int .i64 0, .int .i64 0] : Array Value) = (lasC [] 0 0).toArray := rfl
theorem ls_zero1 (w : World) : Ls (w.alloc (.cells (lasC [] 0 0).toArray 166)) w.heap.size [] 0 := ls_new w rfl (by simp) 166
theorem ls_zero2 (w : World) (o : Obj) : Ls ((w.alloc o).alloc (.cells (lasC [] 0 0).toArray 166)) (w.heap.size + 1) [] 0 := by
 have := ls_zero1 (w.alloc o)
 simpa using this
theorem lasso_is (b g cap st p : Nat) (G : Gph) (K : Nat → ByteArray) (f : ByteArray) (B : Nat → Bool) (ns : List Nd) (s : ByteArray) (w : World) (hs : s.size ≤ 4000000) (hp : p ≤ s.size) (hf : f.size ≤ 1000) (HR : Hid (Cr w b g cap G K f B ns s p)) :
   Calls Tryz.prog 112 #[.pointer (some ⟨b, 0, none⟩), .int .i64 (st : Int)] w fun e w' => LaOut st p G (fsOf f) s b g cap K f B ns w e w' := by
 have hbl := HR.out.wy.lt
 have hgl := HR.out.nr.lt
 have e1 : w.heap.size ≠ b := by omega
 have e2 : w.heap.size + 1 ≠ b := by omega
 have e3 : w.heap.size ≠ g := by omega
 have e4 : w.heap.size + 1 ≠ g := by omega
 have e5 : w.heap.size ≠ w.heap.size + 1 := by omega
 have HSK := fun (c q : Nat) W (hq : q <= s.size) (hc : c < 256) (h : Hid (Cr W b g cap G K f B ns s q)) => cskip_any b g cap c q G K f B ns s W hs hq hc h
 go_enter Tryz.func112, Tryz.ntmps112
 go_wp2_with fail
 rw [show (#[Value.int IntKind.i64 0, Value.int IntKind.i64 0, Value.int IntKind.i64 0, Value.int IntKind.i64 0, Value.int IntKind.i64 0, Value.int IntKind.i64 0, Value.int IntKind.i64 0, Value.int IntKind.i64 0, Value.int IntKind.i64 0, Value.int IntKind.i64 0, Value.int IntKind.i64 0, Value.int IntKind.i64 0, Value.int IntKind.i64 0, Value.int IntKind.i64 0, Value.int IntKind.i64 0, Value.int IntKind.i64 0, Value.int IntKind.i64 0, Value.int IntKind.i64 0, Value.int IntKind.i64 0, Value.int IntKind.i64 0, Value.int IntKind.i64 0, Value.int IntKind.i64 0, Value.int IntKind.i64 0, Value.int IntKind.i64 0, Value.int IntKind.i64 0, Value.int IntKind.i64 0, Value.int IntKind.i64 0, Value.int IntKind.i64 0, Value.int IntKind.i64 0, Value.int IntKind.i64 0, Value.int IntKind.i64 0, Value.int IntKind.i64 0, Value.int IntKind.i64 0, Value.int IntKind.i64 0, Value.int IntKind.i64 0, Value.int IntKind.i64 0, Value.int IntKind.i64 0, Value.int IntKind.i64 0, Value.int IntKind.i64 0, Value.int IntKind.i64 0, Value.int IntKind.i64 0, Value.int IntKind.i64 0] : Array Value) = (lasC [] 0 0).toArray from zero42]
 generalize hW : (w.alloc (Obj.cells (lasC [] 0 0).toArray 166)).alloc (Obj.cells (lasC [] 0 0).toArray 166) = w0
 have HC0 : Hid (Cr w0 b g cap G K f B ns s p) := by show Cr _ _ _ _ _ _ _ _ _ _ _; rw [<- hW]; exact (HR.out.alloc _).alloc _
 have HL0 : Hid (Ls w0 (w.heap.size + 1) [] 0) := by show Ls _ _ _ _; rw [<- hW]; exact ls_zero2 w _
 have HB0 : Hid (Ls w0 w.heap.size [] 0) := by show Ls _ _ _ _; rw [<- hW]; exact (ls_zero1 w).alloc _
 have HK0 : Hid (Kq b w w0) := by show Kq _ _ _; rw [<- hW]; exact ((Kq.refl _ _).alloc _).alloc _
 clear hW
 refine (HSK 91 p _ hp (by omega) HC0).mono ?_
 rintro e w1 ⟨⟨hA1, rfl, hcr⟩ | ⟨hA1, rfl, hcr⟩, hkq⟩
 case inr =>
   have HC1 : Hid (Cr w1 b g cap G K f B ns s p) := hcr
   have HL1 : Hid (Ls w1 (w.heap.size + 1) [] 0) := HL0.out.kq hkq e2
   have HB1 : Hid (Ls w1 w.heap.size [] 0) := HB0.out.kq hkq e1
   have HK1 : Hid (Kq b w w1) := HK0.out.trans hkq
   have HN : Hid (lasG G (fsOf f) s st p = none) := lasG_none (las_no1 hA1)
   clear hcr hkq hA1
   have hCl := lasC_len ([] : List Nat) ([] : List Nat).length (0)
   have hCo := lasC_one ([] : List Nat) ([] : List Nat).length (0)
   have hrg := HL1.out.range
   obtain ⟨C, hC⟩ : ∃ C, C = lasC ([] : List Nat) ([] : List Nat).length (0) := ⟨_, rfl⟩
   rw [<- hC] at hCl hCo hrg
   have HRG : Hid (w1.rangeAt (w.heap.size + 1) 0 C) := hrg
   have HCO : Hid (C.toArray.all (·.oneCell') = true) := hCo
   have hCs : C.toArray.size = 42 := by simp [hCl]
   clear hC hrg hCo
   go_wp2_with (first
     | (refine loadT 166 42 Tryz.size166 Tryz.row166 (by rfl) _ (by rfl) (w.heap.size + 1) (by rfl) C HRG.out hCl ?_)
     | (refine storeT 166 42 Tryz.size166 (by rfl) _ _ (by rfl) w.heap.size C.toArray (by rfl) (by rfl) HB1.out.there hCs HCO.out ?_; intro w7 hb7 hz7 hk7 hr7))
   exact bodyPost_ret (resultLas _ _ w.heap.size C _ rfl rfl (by simpa using hr7) hCl) rfl ⟨C, p, hCl, HCO.out, HC1.out.same (by rw [hz7]; exact Nat.le_refl _) (hk7 _ (Ne.symm e1)) (hk7 _ (Ne.symm e3)), hp, HK1.out.new hb7, .inl ⟨HN.out, rfl⟩⟩
 have hp1 : p + 1 <= s.size := isAt_lt hA1
 have HA1 : Hid (isAt s p 91 = true) := hA1
 have HC1 : Hid (Cr w1 b g cap G K f B ns s (p + 1)) := hcr
 have HL1 : Hid (Ls w1 (w.heap.size + 1) [] 0) := HL0.out.kq hkq e2
 have HB1 : Hid (Ls w1 w.heap.size [] 0) := HB0.out.kq hkq e1
 have HK1 : Hid (Kq b w w1) := HK0.out.trans hkq
 clear hcr hkq hA1 HC0 HL0 HB0 HK0
 go_wp2_with fail
 refine (listed_is b g cap (w.heap.size + 1) 0 (p + 1) [] G K f B ns s _ hs hp1 e2 e4 HC1 HL1).mono ?_
 rintro e w2 ⟨rfl, hcr, hls, hk2⟩
 have hAd : dig G.n (40 - ([] : List Nat).length) (tl s (p + 1)) = digA G.n s p := rfl
 rw [hAd] at hcr hls
 rw [List.nil_append] at hls
 obtain ⟨A, hAe⟩ : ∃ A, A = digA G.n s p := ⟨_, rfl⟩
 rw [<- hAe] at hcr hls
 have hq2 : p + 1 + A.length ≤ s.size := by have := dig_le G.n 40 (tl s (p + 1)); rw [tl_length] at this; have h3 : A.length = (dig G.n 40 (tl s (p + 1))).length := by rw [hAe]; rfl
                                            omega
 have hA40 : A.length <= 40 := hls.le
 have HAE : Hid (A = digA G.n s p) := hAe
 have cn := hls.cn
 have z41 := hls.z 41 (by omega)
 have c41 := hls.cf
 have HC2 : Hid (Cr w2 b g cap G K f B ns s (p + 1 + A.length)) := hcr
 have HL2 : Hid (Ls w2 (w.heap.size + 1) A 0) := hls
 have HB2 : Hid (Ls w2 w.heap.size [] 0) := HB1.out.same hk2.size (hk2.keep _ HB1.out.lt e1 e5)
 have HK2 : Hid (Kq b w w2) := K2.kq HK1.out hk2 (by omega)
 clear hcr hls hk2 hAe hAd HC1 HL1 HB1 HK1
 go_wp2_with fail
 have HC3 : Hid (Cr (w2.setCell ⟨w.heap.size + 1, 41, none⟩ (.int .i64 (A.length : Int))) b g cap G K f B ns s (p + 1 + A.length)) := HC2.out.setOther _ e2 e4
 have HL3 : Hid (Ls (w2.setCell ⟨w.heap.size + 1, 41, none⟩ (.int .i64 (A.length : Int))) (w.heap.size + 1) A A.length) := HL2.out.loop _
 have HB3 : Hid (Ls (w2.setCell ⟨w.heap.size + 1, 41, none⟩ (.int .i64 (A.length : Int))) w.heap.size [] 0) := HB2.out.setOther _ e5
 have HK3 : Hid (Kq b w (w2.setCell ⟨w.heap.size + 1, 41, none⟩ (.int .i64 (A.length : Int)))) := HK2.out.setNew _ (by omega)
 generalize w2.setCell ⟨w.heap.size + 1, 41, none⟩ (.int .i64 (A.length : Int)) = w3 at HC3 HL3 HB3 HK3 ⊢
 clear HC2 HL2 HB2 HK2 cn z41 c41
 refine (HSK 40 (p + 1 + A.length) _ hq2 (by omega) HC3).mono ?_
 rintro e w4 ⟨⟨hA1, rfl, hcr⟩ | ⟨hA1, rfl, hcr⟩, hkq⟩
 case inr =>
   have HC4 : Hid (Cr w4 b g cap G K f B ns s (p + 1 + A.length)) := hcr
   have HL4 : Hid (Ls w4 (w.heap.size + 1) A A.length) := HL3.out.kq hkq e2
   have HB4 : Hid (Ls w4 w.heap.size [] 0) := HB3.out.kq hkq e1
   have HK4 : Hid (Kq b w w4) := HK3.out.trans hkq
   have HN : Hid (lasG G (fsOf f) s st p = none) := lasG_none (las_no2 (by rw [<- HAE.out]; exact hA1))
   clear hcr hkq hA1
   have hCl := lasC_len (A) (A).length (A.length)
   have hCo := lasC_one (A) (A).length (A.length)
   have hrg := HL4.out.range
   obtain ⟨C, hC⟩ : ∃ C, C = lasC (A) (A).length (A.length) := ⟨_, rfl⟩
   rw [<- hC] at hCl hCo hrg
   have HRG : Hid (w4.rangeAt (w.heap.size + 1) 0 C) := hrg
   have HCO : Hid (C.toArray.all (·.oneCell') = true) := hCo
   have hCs : C.toArray.size = 42 := by simp [hCl]
   clear hC hrg hCo
   go_wp2_with (first
     | (refine loadT 166 42 Tryz.size166 Tryz.row166 (by rfl) _ (by rfl) (w.heap.size + 1) (by rfl) C HRG.out hCl ?_)
     | (refine storeT 166 42 Tryz.size166 (by rfl) _ _ (by rfl) w.heap.size C.toArray (by rfl) (by rfl) HB4.out.there hCs HCO.out ?_; intro w7 hb7 hz7 hk7 hr7))
   exact bodyPost_ret (resultLas _ _ w.heap.size C _ rfl rfl (by simpa using hr7) hCl) rfl ⟨C, _, hCl, HCO.out, HC4.out.same (by rw [hz7]; exact Nat.le_refl _) (hk7 _ (Ne.symm e1)) (hk7 _ (Ne.symm e3)), hq2, HK4.out.new hb7, .inl ⟨HN.out, rfl⟩⟩
 have hq3 : p + 1 + A.length + 1 <= s.size := isAt_lt hA1
 have HA2 : Hid (isAt s (p + 1 + A.length) 40 = true) := hA1
 have HC4 : Hid (Cr w4 b g cap G K f B ns s (p + 1 + A.length + 1)) := hcr
 have HL4 : Hid (Ls w4 (w.heap.size + 1) A A.length) := HL3.out.kq hkq e2
 have HB4 : Hid (Ls w4 w.heap.size [] 0) := HB3.out.kq hkq e1
 have HK4 : Hid (Kq b w w4) := HK3.out.trans hkq
 clear hcr hkq hA1 HC3 HL3 HB3 HK3
 go_wp2_with fail
 refine (listed_is b g cap (w.heap.size + 1) A.length (p + 1 + A.length + 1) A G K f B ns s _ hs hq3 e2 e4 HC4 HL4).mono ?_
 rintro e w5 ⟨rfl, hcr, hls, hk2⟩
 obtain ⟨D, hDe⟩ : ∃ D, D = dig G.n (40 - A.length) (tl s (p + 1 + A.length + 1)) := ⟨_, rfl⟩
 rw [<- hDe] at hcr hls
 have HDE : Hid (D = digB G.n s p) := by show _ = _; rw [hDe, HAE.out]; rfl
 have hq4 : p + 1 + A.length + 1 + D.length <= s.size := by have := dig_le G.n (40 - A.length) (tl s (p + 1 + A.length + 1)); rw [tl_length, <- hDe] at this; omega
 have HC5 : Hid (Cr w5 b g cap G K f B ns s (p + 1 + A.length + 1 + D.length)) := hcr
 have HL5 : Hid (Ls w5 (w.heap.size + 1) (A ++ D) A.length) := hls
 have HB5 : Hid (Ls w5 w.heap.size [] 0) := HB4.out.same hk2.size (hk2.keep _ HB4.out.lt e1 e5)
 have HK5 : Hid (Kq b w w5) := K2.kq HK4.out hk2 (by omega)
 clear hcr hls hk2 hDe HC4 HL4 HB4 HK4
 go_wp2_with fail
 refine (HSK 41 (p + 1 + A.length + 1 + D.length) _ hq4 (by omega) HC5).mono ?_
 rintro e w6 ⟨⟨hA1, rfl, hcr⟩ | ⟨hA1, rfl, hcr⟩, hkq⟩
 case inr =>
   have HC6 : Hid (Cr w6 b g cap G K f B ns s (p + 1 + A.length + 1 + D.length)) := hcr
   have HL6 : Hid (Ls w6 (w.heap.size + 1) (A ++ D) A.length) := HL5.out.kq hkq e2
   have HB6 : Hid (Ls w6 w.heap.size [] 0) := HB5.out.kq hkq e1
   have HK6 : Hid (Kq b w w6) := HK5.out.trans hkq
   have HN : Hid (lasG G (fsOf f) s st p = none) := lasG_none (las_no3 (by rw [<- HAE.out, <- HDE.out]; exact hA1))
   clear hcr hkq hA1
   have hCl := lasC_len (A ++ D) (A ++ D).length (A.length)
   have hCo := lasC_one (A ++ D) (A ++ D).length (A.length)
   have hrg := HL6.out.range
   obtain ⟨C, hC⟩ : ∃ C, C = lasC (A ++ D) (A ++ D).length (A.length) := ⟨_, rfl⟩
   rw [<- hC] at hCl hCo hrg
   have HRG : Hid (w6.rangeAt (w.heap.size + 1) 0 C) := hrg
   have HCO : Hid (C.toArray.all (·.oneCell') = true) := hCo
   have hCs : C.toArray.size = 42 := by simp [hCl]
   clear hC hrg hCo
   go_wp2_with (first
     | (refine loadT 166 42 Tryz.size166 Tryz.row166 (by rfl) _ (by rfl) (w.heap.size + 1) (by rfl) C HRG.out hCl ?_)
     | (refine storeT 166 42 Tryz.size166 (by rfl) _ _ (by rfl) w.heap.size C.toArray (by rfl) (by rfl) HB6.out.there hCs HCO.out ?_; intro w7 hb7 hz7 hk7 hr7))
   exact bodyPost_ret (resultLas _ _ w.heap.size C _ rfl rfl (by simpa using hr7) hCl) rfl ⟨C, _, hCl, HCO.out, HC6.out.same (by rw [hz7]; exact Nat.le_refl _) (hk7 _ (Ne.symm e1)) (hk7 _ (Ne.symm e3)), hq4, HK6.out.new hb7, .inl ⟨HN.out, rfl⟩⟩
 have hq5 : p + 1 + A.length + 1 + D.length + 1 <= s.size := isAt_lt hA1
 have HA3 : Hid (isAt s (p + 1 + A.length + 1 + D.length) 41 = true) := hA1
 have HC6 : Hid (Cr w6 b g cap G K f B ns s (p + 1 + A.length + 1 + D.length + 1)) := hcr
 have HL6 : Hid (Ls w6 (w.heap.size + 1) (A ++ D) A.length) := HL5.out.kq hkq e2
 have HB6 : Hid (Ls w6 w.heap.size [] 0) := HB5.out.kq hkq e1
 have HK6 : Hid (Kq b w w6) := HK5.out.trans hkq
 clear hcr hkq hA1 HC5 HL5 HB5 HK5
 go_wp2_with fail
 refine (HSK 93 (p + 1 + A.length + 1 + D.length + 1) _ hq5 (by omega) HC6).mono ?_
 rintro e w8 ⟨⟨hA1, rfl, hcr⟩ | ⟨hA1, rfl, hcr⟩, hkq⟩
 case inr =>
   have HC8 : Hid (Cr w8 b g cap G K f B ns s (p + 1 + A.length + 1 + D.length + 1)) := hcr
   have HL8 : Hid (Ls w8 (w.heap.size + 1) (A ++ D) A.length) := HL6.out.kq hkq e2
   have HB8 : Hid (Ls w8 w.heap.size [] 0) := HB6.out.kq hkq e1
   have HK8 : Hid (Kq b w w8) := HK6.out.trans hkq
   have HN : Hid (lasG G (fsOf f) s st p = none) := lasG_none (las_no4 (by rw [<- HAE.out, <- HDE.out]; exact hA1))
   clear hcr hkq hA1
   have hCl := lasC_len (A ++ D) (A ++ D).length (A.length)
   have hCo := lasC_one (A ++ D) (A ++ D).length (A.length)
   have hrg := HL8.out.range
   obtain ⟨C, hC⟩ : ∃ C, C = lasC (A ++ D) (A ++ D).length (A.length) := ⟨_, rfl⟩
   rw [<- hC] at hCl hCo hrg
   have HRG : Hid (w8.rangeAt (w.heap.size + 1) 0 C) := hrg
   have HCO : Hid (C.toArray.all (·.oneCell') = true) := hCo
   have hCs : C.toArray.size = 42 := by simp [hCl]
   clear hC hrg hCo
   go_wp2_with (first
     | (refine loadT 166 42 Tryz.size166 Tryz.row166 (by rfl) _ (by rfl) (w.heap.size + 1) (by rfl) C HRG.out hCl ?_)
     | (refine storeT 166 42 Tryz.size166 (by rfl) _ _ (by rfl) w.heap.size C.toArray (by rfl) (by rfl) HB8.out.there hCs HCO.out ?_; intro w7 hb7 hz7 hk7 hr7))
   exact bodyPost_ret (resultLas _ _ w.heap.size C _ rfl rfl (by simpa using hr7) hCl) rfl ⟨C, _, hCl, HCO.out, HC8.out.same (by rw [hz7]; exact Nat.le_refl _) (hk7 _ (Ne.symm e1)) (hk7 _ (Ne.symm e3)), hq5, HK8.out.new hb7, .inl ⟨HN.out, rfl⟩⟩
 have hq6 : p + 1 + A.length + 1 + D.length + 1 + 1 <= s.size := isAt_lt hA1
 have HA4 : Hid (isAt s (p + 1 + A.length + 1 + D.length + 1) 93 = true) := hA1
 have HC8 : Hid (Cr w8 b g cap G K f B ns s (p + 1 + A.length + 1 + D.length + 1 + 1)) := hcr
 have HL8 : Hid (Ls w8 (w.heap.size + 1) (A ++ D) A.length) := HL6.out.kq hkq e2
 have HB8 : Hid (Ls w8 w.heap.size [] 0) := HB6.out.kq hkq e1
 have HK8 : Hid (Kq b w w8) := HK6.out.trans hkq
 clear hcr hkq hA1 HC6 HL6 HB6 HK6
 have cn := HL8.out.cn
 have c41 := HL8.out.cf
 have c0 := HL8.out.c 0 (by omega)
 rw [List.length_append] at cn
 by_cases hD : D = []
 · have HN : Hid (lasG G (fsOf f) s st p = none) := lasG_none (las_no5 (by rw [<- HDE.out]; exact hD))
   have hDl : D.length = 0 := by rw [hD]; rfl
   rw [hDl, Nat.add_zero] at cn
   clear hD hDl
   have hCl := lasC_len (A ++ D) (A ++ D).length (A.length)
   have hCo := lasC_one (A ++ D) (A ++ D).length (A.length)
   have hrg := HL8.out.range
   obtain ⟨C, hC⟩ : ∃ C, C = lasC (A ++ D) (A ++ D).length (A.length) := ⟨_, rfl⟩
   rw [<- hC] at hCl hCo hrg
   have HRG : Hid (w8.rangeAt (w.heap.size + 1) 0 C) := hrg
   have HCO : Hid (C.toArray.all (·.oneCell') = true) := hCo
   have hCs : C.toArray.size = 42 := by simp [hCl]
   clear hC hrg hCo
   go_wp2_with (first
     | (refine loadT 166 42 Tryz.size166 Tryz.row166 (by rfl) _ (by rfl) (w.heap.size + 1) (by rfl) C HRG.out hCl ?_)
     | (refine storeT 166 42 Tryz.size166 (by rfl) _ _ (by rfl) w.heap.size C.toArray (by rfl) (by rfl) HB8.out.there hCs HCO.out ?_; intro w7 hb7 hz7 hk7 hr7))
   exact bodyPost_ret (resultLas _ _ w.heap.size C _ rfl rfl (by simpa using hr7) hCl) rfl ⟨C, _, hCl, HCO.out, HC8.out.same (by rw [hz7]; exact Nat.le_refl _) (hk7 _ (Ne.symm e1)) (hk7 _ (Ne.symm e3)), hq6, HK8.out.new hb7, .inl ⟨HN.out, rfl⟩⟩
 · have hDl : 0 < D.length := List.length_pos_iff.2 hD
   obtain ⟨kn, hkn⟩ : ∃ kn, kn = A.length + D.length := ⟨_, rfl⟩
   have hq : (((A.length : Nat) : Int) == (kn : Int)) = false := by rw [beq_eq_false_iff_ne]; omega
   rw [<- hkn] at cn
   have HKN : Hid (kn = A.length + D.length) := hkn
   clear hkn
   have HLAS : Hid (las G.n s p = some (A ++ D, A.length, p + 1 + A.length + 1 + D.length + 2)) := by
     show _ = _
     rw [HAE.out, HDE.out]
     have h2 := HA2.out
     have h3 := HA3.out
     have h4 := HA4.out
     have h5 := hD
     rw [HDE.out] at h3 h4 h5
     rw [HAE.out] at h2 h3 h4
     exact las_yes HA1.out h2 h3 h4 h5
   obtain ⟨l0, hl0⟩ : ∃ l0, l0 = (A ++ D).getD 0 0 := ⟨_, rfl⟩
   have HL0E : Hid (l0 = (A ++ D).getD 0 0) := hl0
   rw [<- hl0] at c0
   clear hl0 hD
   by_cases h0 : l0 = st
   · have hq2 : ((l0 : Int) != (st : Int)) = false := by rw [h0]; simp
     have HST : Hid ((A ++ D).getD 0 0 = st) := by show _ = _; rw [<- HL0E.out]; exact h0
     clear h0
     have hls := las_some HLAS.out
     have HFW := fun C hC W (h : Hid (Wy W b 0 G K f B)) => fairway_is b 0 A.length (A ++ D) G K f B C hC W hls.2.1 hls.1 hls.2.2.1 hf h
     obtain ⟨X, hX⟩ : ∃ X, X = goesL G (fsOf f) (A ++ D) A.length := ⟨_, rfl⟩
     have HX : Hid (X = goesL G (fsOf f) (A ++ D) A.length) := hX
     rw [<- hX] at HFW
     have hCl := lasC_len (A ++ D) (A ++ D).length (A.length)
     have hCo := lasC_one (A ++ D) (A ++ D).length (A.length)
     have HLR : Hid (∀ W : World, Ls W (w.heap.size + 1) (A ++ D) A.length -> W.rangeAt (w.heap.size + 1) 0 (lasC (A ++ D) (A ++ D).length A.length)) := fun W h => h.range
     obtain ⟨C, hC⟩ : ∃ C, C = lasC (A ++ D) (A ++ D).length (A.length) := ⟨_, rfl⟩
     have HFC := HFW C hC
     rw [<- hC] at hCl hCo HLR
     have HCE : Hid (C = lasC (A ++ D) (A ++ D).length (A.length)) := hC
     have HCO : Hid (C.toArray.all (·.oneCell') = true) := hCo
     have hCs : C.toArray.size = 42 := by simp [hCl]
     clear hC hCo HFW hX hls
     go_wp2_with fail
     refine wp_region_held_drew (S := fun w' => w'.rangeAt (w.heap.size + 1) 0 C) (by kernel_rfl) (HLR.out _ HL8.out.drew) (fun hHeld => ?_)
     refine wpAnyH_take (i := 0) rfl (by kernel_rfl) (by kernel_rfl) (by kernel_rfl) (fun _ _ _ h => h) (yld42 (w.heap.size + 1) C hCl (by rfl) _ (by rfl) (by rfl) (fun _ h => h)) hHeld ?_
     simp only [Act.put, List.setIfInBounds_toArray]
     refine wpAnyH_take (i := 4) rfl (by kernel_rfl) (by kernel_rfl) (by kernel_rfl) (fun _ _ _ h => h) (yld42 (w.heap.size + 1) C hCl (by rfl) _ (by rfl) (by rfl) (fun _ h => h)) hHeld ?_
     simp only [Act.put]
     refine wpAnyH_take (i := 1) (v := ?v1) rfl (by kernel_rfl) (by kernel_rfl) (by kernel_rfl) (fun _ _ _ h => h) (Or.inl ⟨by rfl, ?hy1⟩) hHeld ?rest1
     case hy1 =>
       intro W hW
       have hW1 := hW
       go_simp
       try with_reducible rfl
     simp only [Act.put]
     refine wpAnyH_take (i := 2) (v := ?v2) rfl (by kernel_rfl) (by kernel_rfl) (by kernel_rfl) (fun _ _ _ h => h) (Or.inl ⟨by rfl, ?hy2⟩) hHeld ?rest2
     case hy2 =>
       intro W hW
       have hW1 := hW
       go_simp
       try with_reducible rfl
     simp only [Act.put]
     refine wpAnyH_take (i := 3) (v := ?v3) rfl (by kernel_rfl) (by kernel_rfl) (by kernel_rfl) (fun _ _ _ h => h) (Or.inl ⟨by rfl, ?hy3⟩) hHeld ?rest3
     case hy3 =>
       intro W hW
       have hW1 := hW
       go_simp
       try with_reducible rfl
     simp only [Act.put]
     refine wpAnyH_ready (rs := [5]) (by kernel_rfl) (by simp) ?_
     refine AllReadyH.cons rfl (fun KK hKK => ?_) AllReadyH.nil
     go_simp
     refine (HFC _ (show Hid _ from HC8.out.drew.wy)).mono ?_
     rintro e w9 ⟨rfl, hb9⟩
     have HC9 : Hid (Cr w9 b g cap G K f B ns s (p + 1 + A.length + 1 + D.length + 1 + 1)) := HC8.out.drew.below hb9 HC8.out.wy.lt HC8.out.nr.lt
     have HL9 : Hid (Ls w9 (w.heap.size + 1) (A ++ D) A.length) := HL8.out.drew.below hb9 HL8.out.lt
     have HB9 : Hid (Ls w9 w.heap.size [] 0) := HB8.out.drew.below hb9 HB8.out.lt
     have HK9 : Hid (Kq b w w9) := HK8.out.drew.new (hb9.mono HK8.out.size)
     clear hHeld
     go_wp2_with fail
     refine hKK.out _ _ (HLR.out _ HL9.out) (fun hHeld => ?_)
     clear hKK KK
     refine wpAnyH_ready (rs := [6]) (by kernel_rfl) (by simp) ?_
     refine AllReadyH.cons rfl (fun KK hKK => ?_) AllReadyH.nil
     rw [if_pos (by rfl)]
     refine wp_store_mid 166 _ _ rfl w.heap.size 0 C.toArray rfl (by rfl) (by rw [hCs]; exact HB9.out.there) (by rw [hCs]; exact Tryz.size166) HCO.out ?_
     have hr6 : (w9.setCells w.heap.size 0 C.toArray.toList).rangeAt w.heap.size 0 C.toArray.toList := World.rangeAt_setCells_same _ _ _ _ (by simpa [hCl] using HB9.out.there)
     have hb6 : Below w.heap.size w9 (w9.setCells w.heap.size 0 C.toArray.toList) := below_setCellsT _ _ _ _
     have hk6 := block_setCellsT w.heap.size C.toArray.toList 0 w9
     have hz6 := size_setCellsT w.heap.size C.toArray.toList 0 w9
     generalize w9.setCells w.heap.size 0 C.toArray.toList = w10 at hr6 hb6 hk6 hz6 ⊢
     have HL10 : Hid (Ls w10 (w.heap.size + 1) (A ++ D) A.length) := HL9.out.same (by rw [hz6]; exact Nat.le_refl _) (hk6 _ (Ne.symm e5))
     refine hKK.out _ _ (HLR.out _ HL10.out) (fun hHeld => ?_)
     clear hKK KK
     refine wpAnyH_take (i := 7) (v := ?v4) rfl (by kernel_rfl) (by kernel_rfl) (by kernel_rfl) (fun _ _ _ h => h) (Or.inl ⟨by rfl, ?hy4⟩) hHeld ?rest4
     case hy4 =>
       intro W hW
       have hW1 := hW
       go_simp
       try with_reducible rfl
     simp only [Act.put]
     refine wpAnyH_done (by kernel_rfl) ?_ _
     go_wp2_with fail
     exact bodyPost_ret (resultLas _ _ w.heap.size C _ rfl rfl (by simpa using hr6) hCl) rfl ⟨C, _, hCl, HCO.out, HC9.out.same (by rw [hz6]; exact Nat.le_refl _) (hk6 _ (Ne.symm e1)) (hk6 _ (Ne.symm e3)), hq6, HK9.out.new hb6, by
       cases X with
       | true => exact .inr ⟨_, lasG_yes HLAS.out ⟨HST.out, HX.out.symm⟩, HCE.out, rfl, rfl⟩
       | false => exact .inl ⟨lasG_no HLAS.out (fun h => by have h2 := h.2; rw [<- HX.out] at h2; cases h2), rfl⟩⟩
   · have HN : Hid (lasG G (fsOf f) s st p = none) := lasG_no HLAS.out (fun h => h0 (by rw [HL0E.out]; exact h.1))
     have hq2 : ((l0 : Int) != (st : Int)) = true := by rw [bne_iff_ne]; omega
     clear h0
     have hCl := lasC_len (A ++ D) (A ++ D).length (A.length)
     have hCo := lasC_one (A ++ D) (A ++ D).length (A.length)
     have hrg := HL8.out.range
     obtain ⟨C, hC⟩ : ∃ C, C = lasC (A ++ D) (A ++ D).length (A.length) := ⟨_, rfl⟩
     rw [<- hC] at hCl hCo hrg
     have HRG : Hid (w8.rangeAt (w.heap.size + 1) 0 C) := hrg
     have HCO : Hid (C.toArray.all (·.oneCell') = true) := hCo
     have hCs : C.toArray.size = 42 := by simp [hCl]
     clear hC hrg hCo
     go_wp2_with (first
       | (refine loadT 166 42 Tryz.size166 Tryz.row166 (by rfl) _ (by rfl) (w.heap.size + 1) (by rfl) C HRG.out hCl ?_)
       | (refine storeT 166 42 Tryz.size166 (by rfl) _ _ (by rfl) w.heap.size C.toArray (by rfl) (by rfl) HB8.out.there hCs HCO.out ?_; intro w7 hb7 hz7 hk7 hr7))
     exact bodyPost_ret (resultLas _ _ w.heap.size C _ rfl rfl (by simpa using hr7) hCl) rfl ⟨C, _, hCl, HCO.out, HC8.out.same (by rw [hz7]; exact Nat.le_refl _) (hk7 _ (Ne.symm e1)) (hk7 _ (Ne.symm e3)), hq6, HK8.out.new hb7, .inl ⟨HN.out, rfl⟩⟩
end Go.Proofs.YtcfbfdjmcabnkabGreat
