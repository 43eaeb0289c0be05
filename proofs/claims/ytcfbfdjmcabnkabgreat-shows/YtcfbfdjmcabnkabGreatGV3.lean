import Derived.Test.YtcfbfdjmcabnkabGreatGV2
set_option maxRecDepth 100000
set_option maxHeartbeats 4000000
namespace Go.Proofs.YtcfbfdjmcabnkabGreat
open Go.RowKit Fw
open Go.Deep (BT)
set_option linter.unusedVariables false
section
variable (b g cap gs : Nat) (G : Gph) (K : Nat -> ByteArray) (f : ByteArray) (ns : List Nd) (F : Nat -> Nat -> Bool)
theorem until_W (l r : Fm) (wy li ri k st : Nat) (u : Unit) (v : Value) (X : List UInt8) (w : World) (ok : G.ok) (hf : f.size ≤ 2) (hst : st < G.n) (hli : li < ns.length) (hri : ri < ns.length) (hFl : ∀ j, F li j = holdsP G (fsOf f) l j) (hFr : ∀ j, F ri j = holdsP G (fsOf f) r j) (ha : rea G.e (holdsP G (fsOf f) l) (fun j => holdsP G (fsOf f) r j && begP G (fsOf f) j) 5 st = true) (hX : X.length + bud (.node 85 wy u l r) ≤ 1000000000) (HL : Hid (WaAt l li b g cap gs G K f ns F)) (HRR : Hid (WaAt r ri b g cap gs G K f ns F)) (HR : Hid (Cw w b g cap gs G K f (begP G (fsOf f)) ns F v X)) :
   Calls Tryz.prog 96 #[.pointer (some ⟨b, 0, none⟩), .agg #[.int .u8 85, .int .u8 (wy : Int), .int .i64 (li : Int), .int .i64 (ri : Int), .int .i64 (k : Int)], .int .i64 (st : Int)] w fun e w' => WaOut (.node 85 wy u l r) st b g cap gs G K f ns F v X w e w' := by
 have hbl := HR.out.lt
 have hn6 := HR.out.wy.n6
 have eb : w.heap.size ≠ b := by omega
 have HV0 : Hid (v.ownBlock ≠ some w.heap.size) := HR.out.ne (Nat.le_refl _)
 have HVN : Hid (∀ k, w.heap.size <= k -> v.ownBlock ≠ some k) := fun k hk => HR.out.ne hk
 have st6 : st < 6 := by omega
 have s0 : (0 : Int) <= (st : Int) := by omega
 have s1 : (st : Int) < 6 := by omega
 have l0 : (0 : Int) <= (li : Int) := by omega
 have l1 : (li : Int) < (ns.length : Int) := by omega
 have r0 : (0 : Int) <= (ri : Int) := by omega
 have r1 : (ri : Int) < (ns.length : Int) := by omega
 rw [bud_u] at hX
 obtain ⟨SL, hSL⟩ : ∃ SL, SL = holdsP G (fsOf f) l := ⟨_, rfl⟩
 obtain ⟨TR, hTR⟩ : ∃ TR, TR = holdsP G (fsOf f) r := ⟨_, rfl⟩
 obtain ⟨BB, hBB⟩ : ∃ BB, BB = begP G (fsOf f) := ⟨_, rfl⟩
 have HSE : Hid (SL = holdsP G (fsOf f) l) := hSL
 have HTE : Hid (TR = holdsP G (fsOf f) r) := hTR
 have HBE : Hid (BB = begP G (fsOf f)) := hBB
 have HS6 : Hid (∀ W : World, Tab W gs ns.length F -> (fun w' => (w'.cell? ⟨gs, li * 6, none⟩ = some (.bool (SL 0)) ∧ w'.cell? ⟨gs, li * 6 + 1, none⟩ = some (.bool (SL 1)) ∧ w'.cell? ⟨gs, li * 6 + 2, none⟩ = some (.bool (SL 2)) ∧ w'.cell? ⟨gs, li * 6 + 3, none⟩ = some (.bool (SL 3)) ∧ w'.cell? ⟨gs, li * 6 + 4, none⟩ = some (.bool (SL 4)) ∧ w'.cell? ⟨gs, li * 6 + 5, none⟩ = some (.bool (SL 5)))) W) := fun W h => by
   have hc := fun j (hj : j < 6) => h.c li j hli hj
   have e : ∀ j, F li j = SL j := fun j => by rw [hSL]; exact hFl j
   simp only [e] at hc
   exact ⟨hc 0 (by omega), hc 1 (by omega), hc 2 (by omega), hc 3 (by omega), hc 4 (by omega), hc 5 (by omega)⟩
 have HT6 : Hid (∀ W : World, Tab W gs ns.length F -> (fun w' => (w'.cell? ⟨gs, ri * 6, none⟩ = some (.bool (TR 0)) ∧ w'.cell? ⟨gs, ri * 6 + 1, none⟩ = some (.bool (TR 1)) ∧ w'.cell? ⟨gs, ri * 6 + 2, none⟩ = some (.bool (TR 2)) ∧ w'.cell? ⟨gs, ri * 6 + 3, none⟩ = some (.bool (TR 3)) ∧ w'.cell? ⟨gs, ri * 6 + 4, none⟩ = some (.bool (TR 4)) ∧ w'.cell? ⟨gs, ri * 6 + 5, none⟩ = some (.bool (TR 5)))) W) := fun W h => by
   have hc := fun j (hj : j < 6) => h.c ri j hri hj
   have e : ∀ j, F ri j = TR j := fun j => by rw [hTR]; exact hFr j
   simp only [e] at hc
   exact ⟨hc 0 (by omega), hc 1 (by omega), hc 2 (by omega), hc 3 (by omega), hc 4 (by omega), hc 5 (by omega)⟩
 have HB6 : Hid (∀ W : World, Wy W b 0 G K f (begP G (fsOf f)) -> (fun w' => (w'.cell? ⟨b, 46, none⟩ = some (.bool (BB 0)) ∧ w'.cell? ⟨b, 47, none⟩ = some (.bool (BB 1)) ∧ w'.cell? ⟨b, 48, none⟩ = some (.bool (BB 2)) ∧ w'.cell? ⟨b, 49, none⟩ = some (.bool (BB 3)) ∧ w'.cell? ⟨b, 50, none⟩ = some (.bool (BB 4)) ∧ w'.cell? ⟨b, 51, none⟩ = some (.bool (BB 5)))) W) := fun W h => by
   have := h.begin
   rw [<- hBB] at this
   simp only [Nat.zero_add] at this
   exact this
 have HBO := fun W => bothP_is TR BB W
 have hah : rea G.e SL (fun j => TR j && BB j) 5 st = true := by rw [hSL, hTR, hBB]; exact ha
 obtain ⟨E, hE⟩ : ∃ E, E = fun j => TR j && BB j := ⟨_, rfl⟩
 have HEE : Hid (E = fun j => TR j && BB j) := hE
 rw [<- hE] at HBO hah
 have HPA := fun (H : Nat) (hH : b ≠ H) W (h : Hid (Wy W b 0 G K f (begP G (fsOf f)))) (h2 : Hid (Ls W H [st] 0)) => path_is b 0 H 0 [st] G K f (begP G (fsOf f)) SL E W ok (by simp) (by simp) (by intro y hy; simp at hy; rw [hy]; exact hst) hH hah h h2
 have HOK : Hid (G.ok) := ok
 clear hSL hTR hBB hE ha hah hFl hFr ok
 go_enter Tryz.func96, Tryz.ntmps96
 go_wp2_with fail
 generalize hW : w.alloc (Obj.cells #[Value.int IntKind.u8 85, Value.int IntKind.u8 (wy : Int), Value.int IntKind.i64 (li : Int), Value.int IntKind.i64 (ri : Int), Value.int IntKind.i64 (k : Int)] 96) = w0
 have n2 : w0.cell? ⟨w.heap.size, 2, none⟩ = some (.int .i64 (li : Int)) := by rw [<- hW]; simp
 have n3 : w0.cell? ⟨w.heap.size, 3, none⟩ = some (.int .i64 (ri : Int)) := by rw [<- hW]; simp
 have HR0 : Hid (Cw w0 b g cap gs G K f (begP G (fsOf f)) ns F v X) := by show Cw _ _ _ _ _ _ _ _ _ _ _ _ _; rw [<- hW]; exact HR.out.alloc _
 have HK0 : Hid (Kp b v v w w0) := by show Kp _ _ _ _ _; rw [<- hW]; exact (Kp.refl b v w).alloc _
 have hlt0 : w.heap.size < w0.heap.size := by rw [<- hW]; simp
 clear hW
 have HK : Hid (∀ w', Below w0.heap.size w0 w' -> (fun w' => w'.cell? ⟨b, 53, none⟩ = some (.slice (some ⟨gs, 0, none⟩) ns.length ns.length) ∧ w'.cell? ⟨w.heap.size, 3, none⟩ = some (.int .i64 (ri : Int)) ∧ (w'.cell? ⟨gs, ri * 6, none⟩ = some (.bool (TR 0)) ∧ w'.cell? ⟨gs, ri * 6 + 1, none⟩ = some (.bool (TR 1)) ∧ w'.cell? ⟨gs, ri * 6 + 2, none⟩ = some (.bool (TR 2)) ∧ w'.cell? ⟨gs, ri * 6 + 3, none⟩ = some (.bool (TR 3)) ∧ w'.cell? ⟨gs, ri * 6 + 4, none⟩ = some (.bool (TR 4)) ∧ w'.cell? ⟨gs, ri * 6 + 5, none⟩ = some (.bool (TR 5))) ∧ (w'.cell? ⟨b, 46, none⟩ = some (.bool (BB 0)) ∧ w'.cell? ⟨b, 47, none⟩ = some (.bool (BB 1)) ∧ w'.cell? ⟨b, 48, none⟩ = some (.bool (BB 2)) ∧ w'.cell? ⟨b, 49, none⟩ = some (.bool (BB 3)) ∧ w'.cell? ⟨b, 50, none⟩ = some (.bool (BB 4)) ∧ w'.cell? ⟨b, 51, none⟩ = some (.bool (BB 5)))) w') := fun w' h => ⟨(HR0.out.below h).c53, (h.cell (p := ⟨w.heap.size, 3, none⟩) hlt0).trans n3, HT6.out _ (HR0.out.below h).tb, HB6.out _ (HR0.out.below h).wy⟩
 go_region_held3 (fun w' => w'.cell? ⟨b, 53, none⟩ = some (.slice (some ⟨gs, 0, none⟩) ns.length ns.length) ∧ w'.cell? ⟨w.heap.size, 3, none⟩ = some (.int .i64 (ri : Int)) ∧ (w'.cell? ⟨gs, ri * 6, none⟩ = some (.bool (TR 0)) ∧ w'.cell? ⟨gs, ri * 6 + 1, none⟩ = some (.bool (TR 1)) ∧ w'.cell? ⟨gs, ri * 6 + 2, none⟩ = some (.bool (TR 2)) ∧ w'.cell? ⟨gs, ri * 6 + 3, none⟩ = some (.bool (TR 3)) ∧ w'.cell? ⟨gs, ri * 6 + 4, none⟩ = some (.bool (TR 4)) ∧ w'.cell? ⟨gs, ri * 6 + 5, none⟩ = some (.bool (TR 5))) ∧ (w'.cell? ⟨b, 46, none⟩ = some (.bool (BB 0)) ∧ w'.cell? ⟨b, 47, none⟩ = some (.bool (BB 1)) ∧ w'.cell? ⟨b, 48, none⟩ = some (.bool (BB 2)) ∧ w'.cell? ⟨b, 49, none⟩ = some (.bool (BB 3)) ∧ w'.cell? ⟨b, 50, none⟩ = some (.bool (BB 4)) ∧ w'.cell? ⟨b, 51, none⟩ = some (.bool (BB 5)))) (first
     | exact HK.out _ hc6
     | exact HK.out _ hc5
     | exact HK.out _ (Below.al hc5)
     | exact HK.out _ (Below.refl _ _).drew
     | exact HK.out _ (Below.al (Below.refl _ _).drew)) (first
   | (go_at_call 105; refine (HBO _).mono ?_; rintro e w5 ⟨rfl, hb5⟩
      have hc5 : Below w0.heap.size w0 w5 := by first | exact Below.dr hb5 | exact Below.dr (Below.past hb5)
      first
        | (have HP5 : Arr w5 w0.heap.size 6 (fun _ => false) := (arr_at w0.drew (fun _ => false) 65 _ rfl).below hb5 (by simp)
           obtain ⟨w6, hrun6, hb6, hz6, hk6, HR6⟩ := stores6 HP5 E)
        | (obtain ⟨w6, hrun6, hb6, hz6, hk6, HR6⟩ := stores6 (arr_zero w5 65) E)
      have hc6 : Below w0.heap.size w0 w6 := by
        first
          | exact hc5.trans (hb6.mono (by first | exact Nat.le_refl _ | exact hc5.size))
          | exact (Below.al hc5).trans (hb6.mono (by first | exact Nat.le_refl _ | exact hc5.size))))
 all_goals
   have HP6 : Hid (Arr w6 _ 6 _) := HR6
   have q7 : w0.heap.size <= Arr.blk HP6 := by first | exact Nat.le_refl _ | exact hc5.size
   have HW6 : Hid (Cw w6 b g cap gs G K f (begP G (fsOf f)) ns F v X) := HR0.out.below hc6
   have HK6 : Hid (Kp b v v w w6) := HK0.out.new hc6
   have m2 : w6.cell? ⟨w.heap.size, 2, none⟩ = some (.int .i64 (li : Int)) := (hc6.cell (p := ⟨w.heap.size, 2, none⟩) hlt0).trans n2
   have m3 : w6.cell? ⟨w.heap.size, 3, none⟩ = some (.int .i64 (ri : Int)) := (hc6.cell (p := ⟨w.heap.size, 3, none⟩) hlt0).trans n3
   have hlt6 : w.heap.size < w6.heap.size := Nat.lt_of_lt_of_le hlt0 hc6.size
   clear HK hrun6 hb6 hz6 hk6 HR6
   obtain ⟨Q, hQ⟩ : ∃ Q, Q = Arr.blk HP6 := ⟨_, rfl⟩
   have HQ6 : Hid (Arr w6 Q 6 E) := by rw [hQ]; exact HP6.out
   rw [<- hQ] at q7
   simp only [Arr.blk] at hQ
   clear HP6
   go_wp2_with fail
   rw [<- hQ]
   clear hQ hc6 hc5 hb5
   have HW7 := HW6
   have HK7 := HK6
   have hlt7 := hlt6
   have hQ6 : Q < w6.heap.size := HQ6.out.lt
   go_wp2_with (first
     | (go_at_call 117; refine (lassoFrom_is st _).mono ?_; rintro e w8 ⟨C, rfl, hC, hb8⟩
        have hCl : C.length = 42 := by rw [hC, lasC_len]
        have HCO : Hid (C.toArray.all (·.oneCell') = true) := by rw [hC]; exact lasC_one _ _ _
        have HCE : Hid (C = lasC [st] [st].length 0) := hC
        have hCs : C.toArray.size = 42 := by simp [hCl]
        clear hC)
     | (refine storeAt 166 42 Tryz.size166 (by rfl) _ _ (by rfl) w8.heap.size 0 C.toArray (by rfl) (by rfl) (there_newG _ _ _ 42 rfl) hCs HCO.out ?_; intro w9 hb9 hz9 hk9 hr9 ho9 hf9
        have hb79 : Below w6.heap.size w6 w9 := Below.to hb8 (((Below.refl _ _).alloc (Nat.le_refl _) _).trans hb9)
        have HW9 : Hid (Cw w9 b g cap gs G K f (begP G (fsOf f)) ns F v X) := HW7.out.below hb79
        have HK9 : Hid (Kp b v v w w9) := HK7.out.new hb79
        have HL9 : Hid (Ls w9 w8.heap.size [st] 0) := way_new hz9 hr9 hf9 (fz_new _ _ _) HCE.out (by simp)
        have p2 : w9.cell? ⟨w.heap.size, 2, none⟩ = some (.int .i64 (li : Int)) := (hb79.cell (p := ⟨w.heap.size, 2, none⟩) hlt7).trans m2
        have p3 : w9.cell? ⟨w.heap.size, 3, none⟩ = some (.int .i64 (ri : Int)) := (hb79.cell (p := ⟨w.heap.size, 3, none⟩) hlt7).trans m3
        have h78 : w6.heap.size <= w8.heap.size := hb8.size
        have HQ9 : Hid (Arr w9 Q 6 E) := HQ6.out.below hb79 HQ6.out.lt
        clear hb8 hb9 hz9 hk9 hr9 ho9 hf9))
   have h89 : w8.heap.size < w9.heap.size := HL9.out.lt
   have HPAH := HPA w8.heap.size (by omega)
   have HK : Hid (∀ w', Below w9.heap.size w9 w' -> (fun w' => w'.cell? ⟨b, 53, none⟩ = some (.slice (some ⟨gs, 0, none⟩) ns.length ns.length) ∧ w'.cell? ⟨w.heap.size, 2, none⟩ = some (.int .i64 (li : Int)) ∧ (w'.cell? ⟨gs, li * 6, none⟩ = some (.bool (SL 0)) ∧ w'.cell? ⟨gs, li * 6 + 1, none⟩ = some (.bool (SL 1)) ∧ w'.cell? ⟨gs, li * 6 + 2, none⟩ = some (.bool (SL 2)) ∧ w'.cell? ⟨gs, li * 6 + 3, none⟩ = some (.bool (SL 3)) ∧ w'.cell? ⟨gs, li * 6 + 4, none⟩ = some (.bool (SL 4)) ∧ w'.cell? ⟨gs, li * 6 + 5, none⟩ = some (.bool (SL 5))) ∧ (w'.cell? ⟨Q, 0, none⟩ = some (.bool (E 0)) ∧ w'.cell? ⟨Q, 1, none⟩ = some (.bool (E 1)) ∧ w'.cell? ⟨Q, 2, none⟩ = some (.bool (E 2)) ∧ w'.cell? ⟨Q, 3, none⟩ = some (.bool (E 3)) ∧ w'.cell? ⟨Q, 4, none⟩ = some (.bool (E 4)) ∧ w'.cell? ⟨Q, 5, none⟩ = some (.bool (E 5)))) w') := fun w' h => ⟨(HW9.out.below h).c53, (h.cell (p := ⟨w.heap.size, 2, none⟩) (by show w.heap.size < w9.heap.size; omega)).trans p2, HS6.out _ (HW9.out.below h).tb, cells1 (HQ9.out.below h HQ9.out.lt)⟩
   go_region_held3 (fun w' => w'.cell? ⟨b, 53, none⟩ = some (.slice (some ⟨gs, 0, none⟩) ns.length ns.length) ∧ w'.cell? ⟨w.heap.size, 2, none⟩ = some (.int .i64 (li : Int)) ∧ (w'.cell? ⟨gs, li * 6, none⟩ = some (.bool (SL 0)) ∧ w'.cell? ⟨gs, li * 6 + 1, none⟩ = some (.bool (SL 1)) ∧ w'.cell? ⟨gs, li * 6 + 2, none⟩ = some (.bool (SL 2)) ∧ w'.cell? ⟨gs, li * 6 + 3, none⟩ = some (.bool (SL 3)) ∧ w'.cell? ⟨gs, li * 6 + 4, none⟩ = some (.bool (SL 4)) ∧ w'.cell? ⟨gs, li * 6 + 5, none⟩ = some (.bool (SL 5))) ∧ (w'.cell? ⟨Q, 0, none⟩ = some (.bool (E 0)) ∧ w'.cell? ⟨Q, 1, none⟩ = some (.bool (E 1)) ∧ w'.cell? ⟨Q, 2, none⟩ = some (.bool (E 2)) ∧ w'.cell? ⟨Q, 3, none⟩ = some (.bool (E 3)) ∧ w'.cell? ⟨Q, 4, none⟩ = some (.bool (E 4)) ∧ w'.cell? ⟨Q, 5, none⟩ = some (.bool (E 5)))) (first
       | exact ⟨HW10.out.c53, u2, HS6.out _ HW10.out.tb, cells1 HQ10.out⟩
       | exact HK.out _ (Below.refl _ _).drew) (first
     | (go_at_call 120; refine (HPAH _ (show Hid _ from HW9.out.drew.wy) (show Hid _ from HL9.out.drew)).mono ?_; rintro e w10 ⟨rfl, ex, hpo, hl10, hk10⟩
        have HW10 : Hid (Cw w10 b g cap gs G K f (begP G (fsOf f)) ns F v X) := HW9.out.drew.kq hk10 (by omega) (HVN.out _ (by omega))
        have HK10 : Hid (Kp b v v w w10) := HK9.out.drew.kq hk10 (by omega)
        have HL10 : Hid (Ls w10 w8.heap.size ([st] ++ ex) 0) := hl10
        have HPO : Hid (PthOk G.e SL E (lastL [st]) ex) := hpo
        have HQ10 : Hid (Arr w10 Q 6 E) := HQ9.out.drew.kq hk10 (by omega)
        have u2 : w10.cell? ⟨w.heap.size, 2, none⟩ = some (.int .i64 (li : Int)) := (hk10.cell (by show w.heap.size < w9.heap.size; omega) (by omega) 2).trans p2
        have u3 : w10.cell? ⟨w.heap.size, 3, none⟩ = some (.int .i64 (ri : Int)) := (hk10.cell (by show w.heap.size < w9.heap.size; omega) (by omega) 3).trans p3
        have hlt10 : w8.heap.size < w10.heap.size := HL10.out.lt
        clear hpo hl10 hk10))
   all_goals
     obtain ⟨ls, hls⟩ : ∃ ls, ls = [st] ++ ex := ⟨_, rfl⟩
     have hlen : ls.length = ex.length + 1 := by rw [hls]; simp
     have hle5 := HPO.out.le
     have hnil : ls ≠ [] := by rw [hls]; simp
     have hls0 : ls.getD 0 0 = st := by rw [hls]; simp
     have hwl : WalkL G ls := by rw [hls]; exact walkL_wk [st] (by simp) (walk_one G st) ex HPO.out.wk
     have hltn : ∀ y ∈ ls, y < G.n := fun y hy => by
       rw [hls] at hy
       rcases List.mem_append.1 hy with hy | hy
       · simp at hy; rw [hy]; exact hst
       · exact wk_lt HOK.out ex _ HPO.out.wk y hy
     have hend0 : holdsP G (fsOf f) r (lastL ls) = true ∧ begP G (fsOf f) (lastL ls) = true := by
       have := HPO.out.en
       rw [<- lastL_app _ _ (by simp), <- hls, HEE.out, HTE.out, HBE.out, Bool.and_eq_true] at this
       exact this
     have hall : ∀ j, j < ex.length -> holdsP G (fsOf f) l (ls.getD j 0) = true := fun j hj => by
       have := wk_get ex _ HPO.out.wk j hj
       rw [HSE.out] at this
       rw [hls]
       exact this
     rw [<- hls] at HL10
     clear hls
     have HNIL : Hid (ls ≠ []) := hnil
     have HLS0 : Hid (ls.getD 0 0 = st) := hls0
     have HWL : Hid (WalkL G ls) := hwl
     have HLTN : Hid (∀ y ∈ ls, y < G.n) := hltn
     have HLEN : Hid (ls.length = ex.length + 1) := hlen
     have hCl2 : (lasC ls ls.length 0).length = 42 := lasC_len _ _ _
     obtain ⟨C2, hC2⟩ : ∃ C2, C2 = lasC ls ls.length 0 := ⟨_, rfl⟩
     rw [<- hC2] at hCl2
     have HRGA : Hid (∀ W : World, Ls W w8.heap.size ls 0 -> W.rangeAt w8.heap.size 0 C2) := fun W h => by rw [hC2]; exact h.range
     have HWO := fun W (h : Hid (Cw W b g cap gs G K f (begP G (fsOf f)) ns F v X)) => wOnward_is b g cap gs G K f ns F 0 ls C2 hC2 v X W HOK.out hnil hf (by omega) hltn hend0.2 (by omega) h
     have HPL := fun vv XX W (hXX : XX.length + 40 * (bud l + 1) <= 1000000000) (h : Hid (Cw W b g cap gs G K f (begP G (fsOf f)) ns F vv XX)) => wPlaces_is b g cap gs G K f ns F l li 0 ex.length ls C2 hC2 vv XX W (by omega) (by omega) hltn hall hXX HL h
     have HLAST := fun W (h : Hid (Ls W w8.heap.size ls 0)) => last_is w8.heap.size 0 ls W hnil h
     have hxn : lastL ls < G.n := by unfold lastL; exact getD_lt hltn (by omega)
     obtain ⟨x, hx⟩ : ∃ x, x = lastL ls := ⟨_, rfl⟩
     have HXE : Hid (x = lastL ls) := hx
     rw [<- hx] at HLAST hxn hend0
     have HXR : Hid (holdsP G (fsOf f) r x = true) := hend0.1
     clear hx hend0 hC2 hnil hls0 hwl hltn hall
     obtain ⟨n, hn⟩ : ∃ n, n = ex.length := ⟨_, rfl⟩
     have HNE : Hid (n = ex.length) := hn
     rw [<- hn] at hle5 hlen HPL
     clear hn
     have wn : IntKind.i64.wrap ((n : Int) + 1 - 1) = (n : Int) := by rw [show (n : Int) + 1 - 1 = (n : Int) from by omega]; exact wrap_small _ (by omega) (by omega)
     clear hlen
     have e8 : w8.heap.size ≠ b := by omega
     have HV8 : Hid (v.ownBlock ≠ some w8.heap.size) := HVN.out _ (by omega)
     have hltw10 : w.heap.size < w10.heap.size := by omega
     go_wp2_with (first
       | (refine loadT 166 42 Tryz.size166 Tryz.row166 (by rfl) _ (by rfl) w8.heap.size (by rfl) C2 (HRGA.out _ HL10.out) hCl2 ?_)
       | (refine loadT 166 42 Tryz.size166 Tryz.row166 (by rfl) _ (by rfl) w8.heap.size (by rfl) C2 (HRGA.out _ HL11.out) hCl2 ?_)
       | (go_at_call 119; refine (HWO _ HW10).mono ?_; rintro e w11 ⟨rfl, v11, ey, fr2, hend, hw11, hk11⟩
          have hlas : LasOk G (fsOf f) st (ls ++ ey) fr2 := hend.las HNIL.out HLS0.out HWL.out HLTN.out (by have := HLEN.out; have := HNE.out; omega) (by rw [fs_len]; exact hf)
          have HLA : Hid (LasOk G (fsOf f) st (ls ++ ey) fr2) := hlas
          have hl40 : (lasT (ls ++ ey) fr2).length <= 44 := by rw [lasT_len]; have := hlas.2.1; omega
          have HW11 : Hid (Cw w11 b g cap gs G K f (begP G (fsOf f)) ns F v11 (X ++ lasT (ls ++ ey) fr2)) := hw11
          have HK11 : Hid (Kp b v v11 w w11) := HK10.out.trans hk11
          have HL11 : Hid (Ls w11 w8.heap.size ls 0) := hk11.ls HL10.out e8 HV8.out
          have t2 : w11.cell? ⟨w.heap.size, 2, none⟩ = some (.int .i64 (li : Int)) := (hk11.cell hltw10 eb HV0.out 2).trans u2
          have t3 : w11.cell? ⟨w.heap.size, 3, none⟩ = some (.int .i64 (ri : Int)) := (hk11.cell hltw10 eb HV0.out 3).trans u3
          have cn11 : w11.cell? ⟨w8.heap.size, 40, none⟩ = some (.int .i64 ((n : Int) + 1)) := by have := HL11.out.cn; rw [HLEN.out, <- HNE.out] at this; exact this
          have HV11 : Hid (v11.ownBlock ≠ some w8.heap.size) := own_ne hk11 hlt10 HV8.out
          have HVw11 : Hid (v11.ownBlock ≠ some w.heap.size) := own_ne hk11 hltw10 HV0.out
          have hlt11 : w8.heap.size < w11.heap.size := HL11.out.lt
          clear hend hw11 hk11 hlas)
       | (go_at_call 121; refine (HPL v11 _ _ (by rw [List.length_append]; omega) HW11).mono ?_; rintro e w12 ⟨rfl, v12, cs, hpl, hcl, hw12, hk12⟩
          have HPC : Hid (Plcs G (fsOf f) l ls n cs) := hpl
          have HW12 : Hid (Cw w12 b g cap gs G K f (begP G (fsOf f)) ns F v12 (X ++ lasT (ls ++ ey) fr2 ++ comT cs)) := hw12
          have HK12 : Hid (Kp b v v12 w w12) := HK11.out.trans hk12
          have HL12 : Hid (Ls w12 w8.heap.size ls 0) := hk12.ls HL11.out e8 HV11.out
          have s3 : w12.cell? ⟨w.heap.size, 3, none⟩ = some (.int .i64 (ri : Int)) := (hk12.cell (by omega) eb HVw11.out 3).trans t3
          have HV12 : Hid (v12.ownBlock ≠ some w8.heap.size) := own_ne hk12 hlt11 HV11.out
          have HVw12 : Hid (v12.ownBlock ≠ some w.heap.size) := own_ne hk12 (by omega) HVw11.out
          have hlt12 : w8.heap.size < w12.heap.size := HL12.out.lt
          clear hpl hw12 hk12)
       | (go_at_call 93; refine (putN b g cap gs G K f (begP G (fsOf f)) ns F 45 45 v12 _ _ rfl (by omega) (by simp only [List.length_append]; omega) HW12).mono ?_; rintro e w13 ⟨rfl, v13, hw13, hk13⟩
          have HW13 : Hid (Cw w13 b g cap gs G K f (begP G (fsOf f)) ns F v13 (X ++ lasT (ls ++ ey) fr2 ++ comT cs ++ [b8 45])) := hw13
          have HK13 : Hid (Kp b v v13 w w13) := HK12.out.trans hk13
          have HL13 : Hid (Ls w13 w8.heap.size ls 0) := hk13.ls HL12.out e8 HV12.out
          have z3 : w13.cell? ⟨w.heap.size, 3, none⟩ = some (.int .i64 (ri : Int)) := (hk13.cell (by omega) eb HVw12.out 3).trans s3
          have HVw13 : Hid (v13.ownBlock ≠ some w.heap.size) := own_ne hk13 (by omega) HVw12.out
          have hlt13 : w8.heap.size < w13.heap.size := HL13.out.lt
          clear hw13 hk13))
     go_region_held3 (fun w' => w'.cell? ⟨w.heap.size, 3, none⟩ = some (.int .i64 (ri : Int))) (first
         | exact y3
         | exact x3
         | exact z3) (first
       | (go_at_call 122; refine (HLAST _ (show Hid _ from HL13.out.drew)).mono ?_; rintro e w14 ⟨rfl, hb14, hh14⟩
          have HW14 : Hid (Cw w14 b g cap gs G K f (begP G (fsOf f)) ns F v13 (X ++ lasT (ls ++ ey) fr2 ++ comT cs ++ [b8 45])) := HW13.out.drew.below hb14
          have HK14 : Hid (Kp b v v13 w w14) := HK13.out.drew.new hb14
          have x3 : w14.cell? ⟨w.heap.size, 3, none⟩ = some (.int .i64 (ri : Int)) := (hb14.cell (p := ⟨w.heap.size, 3, none⟩) (by show w.heap.size < w13.heap.size; omega)).trans z3
          have hlt14 : w.heap.size < w14.heap.size := by have h := hb14.size; have h2 : w13.heap.size <= w14.heap.size := h; omega
          clear hb14 hh14)
       | (go_at_call 63; refine (HRR.out _ x v13 _ HW14 hxn HXR.out (by simp only [List.length_append, List.length_cons, List.length_nil]; omega)).mono ?_; rintro e w15 ⟨rfl, v15, c, hcrt, hcb, hw15, hk15⟩
          have HCR : Hid (Crt G (fsOf f) r x c) := hcrt
          have HW15 : Hid (Cw w15 b g cap gs G K f (begP G (fsOf f)) ns F v15 (X ++ lasT (ls ++ ey) fr2 ++ comT cs ++ [b8 45] ++ c)) := hw15
          have HK15 : Hid (Kp b v v15 w w15) := HK14.out.trans hk15
          have y3 : w15.cell? ⟨w.heap.size, 3, none⟩ = some (.int .i64 (ri : Int)) := (hk15.cell hlt14 eb HVw13.out 3).trans x3
          clear hcrt hw15 hk15))
     all_goals
       go_wp2_with fail
       refine bodyPost_end (v := .tuple #[]) (by simp [results, Tryz.results96, go_sem]) rfl ⟨rfl, v15, lasT (ls ++ ey) fr2 ++ (comT cs ++ 45 :: c), crt_u HLA.out (by have := HLEN.out; have := HNE.out; omega) HPC.out (by rw [<- HXE.out]; exact HCR.out), by rw [bud_u]; simp only [List.length_append, List.length_cons]; omega, ?_, HK15.out⟩
       have : X ++ (lasT (ls ++ ey) fr2 ++ (comT cs ++ 45 :: c)) = X ++ lasT (ls ++ ey) fr2 ++ comT cs ++ [b8 45] ++ c := by simp; rfl
       rw [this]
       exact HW15.out
end
end Go.Proofs.YtcfbfdjmcabnkabGreat
