import Derived.Test.YtcfbfdjmcabnkabGreatGV3
set_option maxRecDepth 100000
set_option maxHeartbeats 4000000
namespace Go.Proofs.YtcfbfdjmcabnkabGreat
open Go.RowKit Fw
open Go.Deep (BT)
set_option linter.unusedVariables false
section
variable (b g cap gs : Nat) (G : Gph) (K : Nat -> ByteArray) (f : ByteArray) (ns : List Nd) (F : Nat -> Nat -> Bool)
theorem release0_W (l r : Fm) (wy li ri k st : Nat) (u : Unit) (v : Value) (X : List UInt8) (w : World) (ok : G.ok) (hf : f.size ≤ 2) (hst : st < G.n) (hli : li < ns.length) (hri : ri < ns.length) (hFl : ∀ j, F li j = holdsP G (fsOf f) l j) (hFr : ∀ j, F ri j = holdsP G (fsOf f) r j) (ha : rea G.e (holdsP G (fsOf f) r) (fun j => (holdsP G (fsOf f) l j && holdsP G (fsOf f) r j) && begP G (fsOf f) j) 5 st = false) (hs : stayP G (fsOf f) (holdsP G (fsOf f) r) st = true) (hX : X.length + bud (.node 82 wy u l r) ≤ 1000000000) (HL : Hid (WaAt l li b g cap gs G K f ns F)) (HRR : Hid (WaAt r ri b g cap gs G K f ns F)) (HR : Hid (Cw w b g cap gs G K f (begP G (fsOf f)) ns F v X)) :
   Calls Tryz.prog 97 #[.pointer (some ⟨b, 0, none⟩), .agg #[.int .u8 82, .int .u8 (wy : Int), .int .i64 (li : Int), .int .i64 (ri : Int), .int .i64 (k : Int)], .int .i64 (st : Int)] w fun e w' => WaOut (.node 82 wy u l r) st b g cap gs G K f ns F v X w e w' := by
 have hbl := HR.out.lt
 have hn6 := HR.out.wy.n6
 have eb : w.heap.size ≠ b := by omega
 have HV0 : Hid (v.ownBlock ≠ some w.heap.size) := HR.out.ne (Nat.le_refl _)
 have HVN : Hid (∀ k, w.heap.size <= k -> v.ownBlock ≠ some k) := fun k hk => HR.out.ne hk
 have st6 : st < 6 := by omega
 have s0 : (0 : Int) <= (st : Int) := by omega
 have s1 : (st : Int) < 6 := by omega
 have l0 : (0 : Int) <= (li : Int) := by omega
 have l1 : (li : Int) < (ns.length : Int) := by omega
 have r0 : (0 : Int) <= (ri : Int) := by omega
 have r1 : (ri : Int) < (ns.length : Int) := by omega
 rw [bud_r] at hX
 obtain ⟨SL, hSL⟩ : ∃ SL, SL = holdsP G (fsOf f) l := ⟨_, rfl⟩
 obtain ⟨TR, hTR⟩ : ∃ TR, TR = holdsP G (fsOf f) r := ⟨_, rfl⟩
 obtain ⟨BB, hBB⟩ : ∃ BB, BB = begP G (fsOf f) := ⟨_, rfl⟩
 have HSE : Hid (SL = holdsP G (fsOf f) l) := hSL
 have HTE : Hid (TR = holdsP G (fsOf f) r) := hTR
 have HBE : Hid (BB = begP G (fsOf f)) := hBB
 have HS6 : Hid (∀ W : World, Tab W gs ns.length F -> (fun w' => (w'.cell? ⟨gs, li * 6, none⟩ = some (.bool (SL 0)) ∧ w'.cell? ⟨gs, li * 6 + 1, none⟩ = some (.bool (SL 1)) ∧ w'.cell? ⟨gs, li * 6 + 2, none⟩ = some (.bool (SL 2)) ∧ w'.cell? ⟨gs, li * 6 + 3, none⟩ = some (.bool (SL 3)) ∧ w'.cell? ⟨gs, li * 6 + 4, none⟩ = some (.bool (SL 4)) ∧ w'.cell? ⟨gs, li * 6 + 5, none⟩ = some (.bool (SL 5)))) W) := fun W h => by
   have hc := fun j (hj : j < 6) => h.c li j hli hj
   have e : ∀ j, F li j = SL j := fun j => by rw [hSL]; exact hFl j
   simp only [e] at hc
   exact ⟨hc 0 (by omega), hc 1 (by omega), hc 2 (by omega), hc 3 (by omega), hc 4 (by omega), hc 5 (by omega)⟩
 have HT6 : Hid (∀ W : World, Tab W gs ns.length F -> (fun w' => (w'.cell? ⟨gs, ri * 6, none⟩ = some (.bool (TR 0)) ∧ w'.cell? ⟨gs, ri * 6 + 1, none⟩ = some (.bool (TR 1)) ∧ w'.cell? ⟨gs, ri * 6 + 2, none⟩ = some (.bool (TR 2)) ∧ w'.cell? ⟨gs, ri * 6 + 3, none⟩ = some (.bool (TR 3)) ∧ w'.cell? ⟨gs, ri * 6 + 4, none⟩ = some (.bool (TR 4)) ∧ w'.cell? ⟨gs, ri * 6 + 5, none⟩ = some (.bool (TR 5)))) W) := fun W h => by
   have hc := fun j (hj : j < 6) => h.c ri j hri hj
   have e : ∀ j, F ri j = TR j := fun j => by rw [hTR]; exact hFr j
   simp only [e] at hc
   exact ⟨hc 0 (by omega), hc 1 (by omega), hc 2 (by omega), hc 3 (by omega), hc 4 (by omega), hc 5 (by omega)⟩
 have HB6 : Hid (∀ W : World, Wy W b 0 G K f (begP G (fsOf f)) -> (fun w' => (w'.cell? ⟨b, 46, none⟩ = some (.bool (BB 0)) ∧ w'.cell? ⟨b, 47, none⟩ = some (.bool (BB 1)) ∧ w'.cell? ⟨b, 48, none⟩ = some (.bool (BB 2)) ∧ w'.cell? ⟨b, 49, none⟩ = some (.bool (BB 3)) ∧ w'.cell? ⟨b, 50, none⟩ = some (.bool (BB 4)) ∧ w'.cell? ⟨b, 51, none⟩ = some (.bool (BB 5)))) W) := fun W h => by
   have := h.begin
   rw [<- hBB] at this
   simp only [Nat.zero_add] at this
   exact this
 rw [<- hSL, <- hTR, <- hBB] at ha
 have HB1 := fun W => bothP_is SL TR W
 obtain ⟨E1, hE1⟩ : ∃ E1, E1 = fun j => SL j && TR j := ⟨_, rfl⟩
 rw [<- hE1] at HB1
 have HB2 := fun W => bothP_is E1 BB W
 obtain ⟨E, hE⟩ : ∃ E, E = fun j => E1 j && BB j := ⟨_, rfl⟩
 rw [<- hE] at HB2
 have HEE : Hid (E = fun j => (SL j && TR j) && BB j) := by show _ = _; rw [hE, hE1]
 have hEr : (fun j => (SL j && TR j) && BB j) = E := by rw [hE, hE1]
 rw [hEr] at ha
 have HRE := fun W (h : Hid (Wy W b 0 G K f (begP G (fsOf f)))) => reachingP_is b 0 G K f (begP G (fsOf f)) TR E W h
 obtain ⟨D, hD⟩ : ∃ D, D = rea G.e TR E 5 := ⟨_, rfl⟩
 rw [<- hD] at HRE
 have HDE : Hid (D = rea G.e TR E 5) := hD
 rw [<- hTR] at hs
 have hTst : TR st = true := by
   obtain ⟨σ, hσ, hS⟩ := (stayP_iff ok hn6).1 hs
   have := hS 0
   rw [hσ.start] at this
   exact this
 have HY : Hid (D st = false) := by show _ = _; rw [hD]; exact ha
 have HFE := fun (H : Nat) (hH : b ≠ H) W (h : Hid (Wy W b 0 G K f (begP G (fsOf f)))) (h2 : Hid (Ls W H [st] 0)) => fairEnd_is b 0 H 0 [st] G K f (begP G (fsOf f)) TR W ok (by simp) hf (by simp) (by intro y hy; simp at hy; rw [hy]; exact hst) hH hs h h2
 have HTST : Hid (TR st = true) := hTst
 clear hSL hTR hBB hE hE1 hEr hD ha hs hFl hFr ok hTst
 go_enter Tryz.func97, Tryz.ntmps97
 go_wp2_with fail
 generalize hW : w.alloc (Obj.cells #[Value.int IntKind.u8 82, Value.int IntKind.u8 (wy : Int), Value.int IntKind.i64 (li : Int), Value.int IntKind.i64 (ri : Int), Value.int IntKind.i64 (k : Int)] 96) = w0
 have n2 : w0.cell? ⟨w.heap.size, 2, none⟩ = some (.int .i64 (li : Int)) := by rw [<- hW]; simp
 have n3 : w0.cell? ⟨w.heap.size, 3, none⟩ = some (.int .i64 (ri : Int)) := by rw [<- hW]; simp
 have HR0 : Hid (Cw w0 b g cap gs G K f (begP G (fsOf f)) ns F v X) := by show Cw _ _ _ _ _ _ _ _ _ _ _ _ _; rw [<- hW]; exact HR.out.alloc _
 have HK0 : Hid (Kp b v v w w0) := by show Kp _ _ _ _ _; rw [<- hW]; exact (Kp.refl b v w).alloc _
 have hlt0 : w.heap.size < w0.heap.size := by rw [<- hW]; simp
 clear hW
 have HK : Hid (∀ w', Below w0.heap.size w0 w' -> (fun w' => w'.cell? ⟨b, 53, none⟩ = some (.slice (some ⟨gs, 0, none⟩) ns.length ns.length) ∧ w'.cell? ⟨w.heap.size, 3, none⟩ = some (.int .i64 (ri : Int)) ∧ (w'.cell? ⟨gs, ri * 6, none⟩ = some (.bool (TR 0)) ∧ w'.cell? ⟨gs, ri * 6 + 1, none⟩ = some (.bool (TR 1)) ∧ w'.cell? ⟨gs, ri * 6 + 2, none⟩ = some (.bool (TR 2)) ∧ w'.cell? ⟨gs, ri * 6 + 3, none⟩ = some (.bool (TR 3)) ∧ w'.cell? ⟨gs, ri * 6 + 4, none⟩ = some (.bool (TR 4)) ∧ w'.cell? ⟨gs, ri * 6 + 5, none⟩ = some (.bool (TR 5)))) w') := fun w' h => ⟨(HR0.out.below h).c53, (h.cell (p := ⟨w.heap.size, 3, none⟩) hlt0).trans n3, HT6.out _ (HR0.out.below h).tb⟩
 go_region_held3 (fun w' => w'.cell? ⟨b, 53, none⟩ = some (.slice (some ⟨gs, 0, none⟩) ns.length ns.length) ∧ w'.cell? ⟨w.heap.size, 3, none⟩ = some (.int .i64 (ri : Int)) ∧ (w'.cell? ⟨gs, ri * 6, none⟩ = some (.bool (TR 0)) ∧ w'.cell? ⟨gs, ri * 6 + 1, none⟩ = some (.bool (TR 1)) ∧ w'.cell? ⟨gs, ri * 6 + 2, none⟩ = some (.bool (TR 2)) ∧ w'.cell? ⟨gs, ri * 6 + 3, none⟩ = some (.bool (TR 3)) ∧ w'.cell? ⟨gs, ri * 6 + 4, none⟩ = some (.bool (TR 4)) ∧ w'.cell? ⟨gs, ri * 6 + 5, none⟩ = some (.bool (TR 5)))) (first
     | exact HK.out _ (Below.al (Below.refl _ _)).drew
     | exact HK.out _ (Below.refl _ _).drew
     | exact HK.out _ (Below.al (Below.refl _ _).drew)) (fail)
 all_goals
   have HA1 : Arr (w0.alloc (Obj.cells #[Value.bool (TR 0), Value.bool (TR 1), Value.bool (TR 2), Value.bool (TR 3), Value.bool (TR 4), Value.bool (TR 5)] 65)).drew w0.heap.size 6 TR := (arr_at w0 TR 65 _ rfl).drew
   have hc1 : Below w0.heap.size w0 (w0.alloc (Obj.cells #[Value.bool (TR 0), Value.bool (TR 1), Value.bool (TR 2), Value.bool (TR 3), Value.bool (TR 4), Value.bool (TR 5)] 65)).drew := (Below.al (Below.refl _ _)).drew
   go_wp2_with fail
   generalize (w0.alloc (Obj.cells #[Value.bool (TR 0), Value.bool (TR 1), Value.bool (TR 2), Value.bool (TR 3), Value.bool (TR 4), Value.bool (TR 5)] 65)).drew = w1 at HA1 hc1 ⊢
   have HT1 : Hid (Arr w1 w0.heap.size 6 TR) := HA1
   have HW1 : Hid (Cw w1 b g cap gs G K f (begP G (fsOf f)) ns F v X) := HR0.out.below hc1
   have HK1 : Hid (Kp b v v w w1) := HK0.out.new hc1
   have n2 : w1.cell? ⟨w.heap.size, 2, none⟩ = some (.int .i64 (li : Int)) := (hc1.cell (p := ⟨w.heap.size, 2, none⟩) hlt0).trans n2
   have n3 : w1.cell? ⟨w.heap.size, 3, none⟩ = some (.int .i64 (ri : Int)) := (hc1.cell (p := ⟨w.heap.size, 3, none⟩) hlt0).trans n3
   have h01 : w0.heap.size < w1.heap.size := HT1.out.lt
   clear HK HA1 hc1 HR0 HK0
   have HK : Hid (∀ w', Below w1.heap.size w1 w' -> (fun w' => w'.cell? ⟨b, 53, none⟩ = some (.slice (some ⟨gs, 0, none⟩) ns.length ns.length) ∧ w'.cell? ⟨w.heap.size, 2, none⟩ = some (.int .i64 (li : Int)) ∧ (w'.cell? ⟨gs, li * 6, none⟩ = some (.bool (SL 0)) ∧ w'.cell? ⟨gs, li * 6 + 1, none⟩ = some (.bool (SL 1)) ∧ w'.cell? ⟨gs, li * 6 + 2, none⟩ = some (.bool (SL 2)) ∧ w'.cell? ⟨gs, li * 6 + 3, none⟩ = some (.bool (SL 3)) ∧ w'.cell? ⟨gs, li * 6 + 4, none⟩ = some (.bool (SL 4)) ∧ w'.cell? ⟨gs, li * 6 + 5, none⟩ = some (.bool (SL 5))) ∧ (w'.cell? ⟨w0.heap.size, 0, none⟩ = some (.bool (TR 0)) ∧ w'.cell? ⟨w0.heap.size, 1, none⟩ = some (.bool (TR 1)) ∧ w'.cell? ⟨w0.heap.size, 2, none⟩ = some (.bool (TR 2)) ∧ w'.cell? ⟨w0.heap.size, 3, none⟩ = some (.bool (TR 3)) ∧ w'.cell? ⟨w0.heap.size, 4, none⟩ = some (.bool (TR 4)) ∧ w'.cell? ⟨w0.heap.size, 5, none⟩ = some (.bool (TR 5))) ∧ (w'.cell? ⟨b, 46, none⟩ = some (.bool (BB 0)) ∧ w'.cell? ⟨b, 47, none⟩ = some (.bool (BB 1)) ∧ w'.cell? ⟨b, 48, none⟩ = some (.bool (BB 2)) ∧ w'.cell? ⟨b, 49, none⟩ = some (.bool (BB 3)) ∧ w'.cell? ⟨b, 50, none⟩ = some (.bool (BB 4)) ∧ w'.cell? ⟨b, 51, none⟩ = some (.bool (BB 5)))) w') := fun w' h => ⟨(HW1.out.below h).c53, (h.cell (p := ⟨w.heap.size, 2, none⟩) (by show w.heap.size < w1.heap.size; omega)).trans n2, HS6.out _ (HW1.out.below h).tb, cells1 (HT1.out.below h HT1.out.lt), HB6.out _ (HW1.out.below h).wy⟩
   go_region_held3 (fun w' => w'.cell? ⟨b, 53, none⟩ = some (.slice (some ⟨gs, 0, none⟩) ns.length ns.length) ∧ w'.cell? ⟨w.heap.size, 2, none⟩ = some (.int .i64 (li : Int)) ∧ (w'.cell? ⟨gs, li * 6, none⟩ = some (.bool (SL 0)) ∧ w'.cell? ⟨gs, li * 6 + 1, none⟩ = some (.bool (SL 1)) ∧ w'.cell? ⟨gs, li * 6 + 2, none⟩ = some (.bool (SL 2)) ∧ w'.cell? ⟨gs, li * 6 + 3, none⟩ = some (.bool (SL 3)) ∧ w'.cell? ⟨gs, li * 6 + 4, none⟩ = some (.bool (SL 4)) ∧ w'.cell? ⟨gs, li * 6 + 5, none⟩ = some (.bool (SL 5))) ∧ (w'.cell? ⟨w0.heap.size, 0, none⟩ = some (.bool (TR 0)) ∧ w'.cell? ⟨w0.heap.size, 1, none⟩ = some (.bool (TR 1)) ∧ w'.cell? ⟨w0.heap.size, 2, none⟩ = some (.bool (TR 2)) ∧ w'.cell? ⟨w0.heap.size, 3, none⟩ = some (.bool (TR 3)) ∧ w'.cell? ⟨w0.heap.size, 4, none⟩ = some (.bool (TR 4)) ∧ w'.cell? ⟨w0.heap.size, 5, none⟩ = some (.bool (TR 5))) ∧ (w'.cell? ⟨b, 46, none⟩ = some (.bool (BB 0)) ∧ w'.cell? ⟨b, 47, none⟩ = some (.bool (BB 1)) ∧ w'.cell? ⟨b, 48, none⟩ = some (.bool (BB 2)) ∧ w'.cell? ⟨b, 49, none⟩ = some (.bool (BB 3)) ∧ w'.cell? ⟨b, 50, none⟩ = some (.bool (BB 4)) ∧ w'.cell? ⟨b, 51, none⟩ = some (.bool (BB 5)))) (first
       | exact HK.out _ hc6
       | exact HK.out _ hc5
       | exact HK.out _ (Below.al hc5)
       | exact HK.out _ hc4
       | exact HK.out _ (Below.al hc4)
       | exact HK.out _ (Below.refl _ _).drew
       | exact HK.out _ (Below.al (Below.refl _ _).drew)) (first
     | (have hzz := hc4
        clear hzz
        go_at_call 105; refine (HB2 _).mono ?_; rintro e w5 ⟨rfl, hb5⟩
        have hc5 : Below w1.heap.size w1 w5 := by first | exact Below.to hc4 hb5 | exact Below.to hc4 (Below.past hb5)
        first
          | (have HP5 := (arr_at w4 (fun _ => false) 65 _ rfl).below hb5 (by simp)
             obtain ⟨w6, hrun6, hb6, hz6, hk6, HR6⟩ := stores6 HP5 E)
          | (have HP5 := Arr.below HP4 hb5 (Arr.lt HP4)
             obtain ⟨w6, hrun6, hb6, hz6, hk6, HR6⟩ := stores6 HP5 E)
          | (obtain ⟨w6, hrun6, hb6, hz6, hk6, HR6⟩ := stores6 (arr_zero w5 65) E)
        have hc6 : Below w1.heap.size w1 w6 := by
          first
            | exact hc5.trans (hb6.mono (by first | exact Nat.le_refl _ | exact hc4.size | exact hc5.size))
            | exact (Below.al hc5).trans (hb6.mono (by first | exact Nat.le_refl _ | exact hc4.size | exact hc5.size)))
     | (go_at_call 105; refine (HB1 _).mono ?_; rintro e w4 ⟨rfl, hb4⟩
        have hc4 : Below w1.heap.size w1 w4 := by first | exact Below.dr hb4 | exact Below.dr (Below.past hb4)
        first
          | (have HP4 : Hid (Arr w4 w1.heap.size 6 (fun _ => false)) := (arr_at w1.drew (fun _ => false) 65 _ rfl).below hb4 (by simp))
          | skip))
   all_goals
     have HP6 : Hid (Arr w6 _ 6 _) := HR6
     have q7 : w1.heap.size <= Arr.blk HP6 := by first | exact Nat.le_refl _ | exact hc4.size | exact hc5.size
     have HW6 : Hid (Cw w6 b g cap gs G K f (begP G (fsOf f)) ns F v X) := HW1.out.below hc6
     have HK6 : Hid (Kp b v v w w6) := HK1.out.new hc6
     have HT6' : Hid (Arr w6 w0.heap.size 6 TR) := HT1.out.below hc6 HT1.out.lt
     have m2 : w6.cell? ⟨w.heap.size, 2, none⟩ = some (.int .i64 (li : Int)) := (hc6.cell (p := ⟨w.heap.size, 2, none⟩) (by show w.heap.size < w1.heap.size; omega)).trans n2
     have m3 : w6.cell? ⟨w.heap.size, 3, none⟩ = some (.int .i64 (ri : Int)) := (hc6.cell (p := ⟨w.heap.size, 3, none⟩) (by show w.heap.size < w1.heap.size; omega)).trans n3
     have h06 : w0.heap.size < w6.heap.size := HT6'.out.lt
     clear HK hrun6 hb6 hz6 hk6 HR6
     obtain ⟨Q, hQ⟩ : ∃ Q, Q = Arr.blk HP6 := ⟨_, rfl⟩
     have HQ6 : Hid (Arr w6 Q 6 E) := by rw [hQ]; exact HP6.out
     rw [<- hQ] at q7
     simp only [Arr.blk] at hQ
     clear HP6
     go_wp2_with fail
     rw [<- hQ]
     clear hQ hc6 hc5 hc4 hb4 hb5 HW1 HK1 HT1 n2 n3
     have HK : Hid (∀ w', Below w6.heap.size w6 w' -> (fun w' => (w'.cell? ⟨w0.heap.size, 0, none⟩ = some (.bool (TR 0)) ∧ w'.cell? ⟨w0.heap.size, 1, none⟩ = some (.bool (TR 1)) ∧ w'.cell? ⟨w0.heap.size, 2, none⟩ = some (.bool (TR 2)) ∧ w'.cell? ⟨w0.heap.size, 3, none⟩ = some (.bool (TR 3)) ∧ w'.cell? ⟨w0.heap.size, 4, none⟩ = some (.bool (TR 4)) ∧ w'.cell? ⟨w0.heap.size, 5, none⟩ = some (.bool (TR 5))) ∧ (w'.cell? ⟨Q, 0, none⟩ = some (.bool (E 0)) ∧ w'.cell? ⟨Q, 1, none⟩ = some (.bool (E 1)) ∧ w'.cell? ⟨Q, 2, none⟩ = some (.bool (E 2)) ∧ w'.cell? ⟨Q, 3, none⟩ = some (.bool (E 3)) ∧ w'.cell? ⟨Q, 4, none⟩ = some (.bool (E 4)) ∧ w'.cell? ⟨Q, 5, none⟩ = some (.bool (E 5)))) w') := fun w' h => ⟨cells1 (HT6'.out.below h HT6'.out.lt), cells1 (HQ6.out.below h HQ6.out.lt)⟩
     go_region_held3 (fun w' => (w'.cell? ⟨w0.heap.size, 0, none⟩ = some (.bool (TR 0)) ∧ w'.cell? ⟨w0.heap.size, 1, none⟩ = some (.bool (TR 1)) ∧ w'.cell? ⟨w0.heap.size, 2, none⟩ = some (.bool (TR 2)) ∧ w'.cell? ⟨w0.heap.size, 3, none⟩ = some (.bool (TR 3)) ∧ w'.cell? ⟨w0.heap.size, 4, none⟩ = some (.bool (TR 4)) ∧ w'.cell? ⟨w0.heap.size, 5, none⟩ = some (.bool (TR 5))) ∧ (w'.cell? ⟨Q, 0, none⟩ = some (.bool (E 0)) ∧ w'.cell? ⟨Q, 1, none⟩ = some (.bool (E 1)) ∧ w'.cell? ⟨Q, 2, none⟩ = some (.bool (E 2)) ∧ w'.cell? ⟨Q, 3, none⟩ = some (.bool (E 3)) ∧ w'.cell? ⟨Q, 4, none⟩ = some (.bool (E 4)) ∧ w'.cell? ⟨Q, 5, none⟩ = some (.bool (E 5)))) (first
         | exact HK.out _ hd7
         | exact HK.out _ hd5
         | exact HK.out _ (Below.al hd5)
         | exact HK.out _ (Below.refl _ _).drew
         | exact HK.out _ (Below.al (Below.refl _ _).drew)) (first
       | (go_at_call 103; refine (HRE _ (by first | exact (HW6.out.below (Below.refl _ _).drew).wy | exact (HW6.out.below (Below.al (Below.refl _ _).drew)).wy)).mono ?_; rintro e w5 ⟨rfl, he5⟩
          have hd5 : Below w6.heap.size w6 w5 := by first | exact Below.dr he5 | exact Below.dr (Below.past he5)
          first
            | (have HP5 : Arr w5 w6.heap.size 6 (fun _ => false) := (arr_at w6.drew (fun _ => false) 65 _ rfl).below he5 (by simp)
               obtain ⟨w7, hrun7, hb7, hz7, hk7, HR7⟩ := stores6 HP5 D)
            | (obtain ⟨w7, hrun7, hb7, hz7, hk7, HR7⟩ := stores6 (arr_zero w5 65) D)
          have hd7 : Below w6.heap.size w6 w7 := by
            first
              | exact hd5.trans (hb7.mono (by first | exact Nat.le_refl _ | exact hd5.size))
              | exact (Below.al hd5).trans (hb7.mono (by first | exact Nat.le_refl _ | exact hd5.size))))
     all_goals
       have HP7 : Hid (Arr w7 _ 6 _) := HR7
       have q8 : w6.heap.size <= Arr.blk HP7 := by first | exact Nat.le_refl _ | exact hd5.size
       have HW7 : Hid (Cw w7 b g cap gs G K f (begP G (fsOf f)) ns F v X) := HW6.out.below hd7
       have HK7 : Hid (Kp b v v w w7) := HK6.out.new hd7
       have HT7 : Hid (Arr w7 w0.heap.size 6 TR) := HT6'.out.below hd7 HT6'.out.lt
       have HQ7 : Hid (Arr w7 Q 6 E) := HQ6.out.below hd7 HQ6.out.lt
       have m2 : w7.cell? ⟨w.heap.size, 2, none⟩ = some (.int .i64 (li : Int)) := (hd7.cell (p := ⟨w.heap.size, 2, none⟩) (by show w.heap.size < w6.heap.size; omega)).trans m2
       have m3 : w7.cell? ⟨w.heap.size, 3, none⟩ = some (.int .i64 (ri : Int)) := (hd7.cell (p := ⟨w.heap.size, 3, none⟩) (by show w.heap.size < w6.heap.size; omega)).trans m3
       have h07 : w0.heap.size < w7.heap.size := HT7.out.lt
       have hlt7 : w.heap.size < w7.heap.size := by omega
       have hQ7 : Q < w7.heap.size := HQ7.out.lt
       clear HK hrun7 hb7 hz7 hk7 HR7
       obtain ⟨P, hP⟩ : ∃ P, P = Arr.blk HP7 := ⟨_, rfl⟩
       have HD7 : Hid (Arr w7 P 6 D) := by rw [hP]; exact HP7.out
       simp only [Arr.blk] at hP
       clear HP7 q8 hd7 hd5 he5 HW6 HK6 HT6' HQ6
       have hP7 : P < w7.heap.size := HD7.out.lt
       go_wp2_with fail
       rw [<- hP]
       clear hP
       go_wp2_with (first
         | (go_at_call 117; refine (lassoFrom_is st _).mono ?_; rintro e w8 ⟨C, rfl, hC, hb8⟩
            have hCl : C.length = 42 := by rw [hC, lasC_len]
            have HCO : Hid (C.toArray.all (·.oneCell') = true) := by rw [hC]; exact lasC_one _ _ _
            have HCE : Hid (C = lasC [st] [st].length 0) := hC
            have hCs : C.toArray.size = 42 := by simp [hCl]
            clear hC)
         | (refine storeAt 166 42 Tryz.size166 (by rfl) _ _ (by rfl) w8.heap.size 0 C.toArray (by rfl) (by rfl) (there_newG _ _ _ 42 rfl) hCs HCO.out ?_; intro w9 hb9 hz9 hk9 hr9 ho9 hf9
            have hb79 : Below w7.heap.size w7 w9 := Below.to hb8 (((Below.refl _ _).alloc (Nat.le_refl _) _).trans hb9)
            have HW9 : Hid (Cw w9 b g cap gs G K f (begP G (fsOf f)) ns F v X) := HW7.out.below hb79
            have HK9 : Hid (Kp b v v w w9) := HK7.out.new hb79
            have HL9 : Hid (Ls w9 w8.heap.size [st] 0) := way_new hz9 hr9 hf9 (fz_new _ _ _) HCE.out (by simp)
            have p2 : w9.cell? ⟨w.heap.size, 2, none⟩ = some (.int .i64 (li : Int)) := (hb79.cell (p := ⟨w.heap.size, 2, none⟩) hlt7).trans m2
            have p3 : w9.cell? ⟨w.heap.size, 3, none⟩ = some (.int .i64 (ri : Int)) := (hb79.cell (p := ⟨w.heap.size, 3, none⟩) hlt7).trans m3
            have h78 : w7.heap.size <= w8.heap.size := hb8.size
            have HQ9 : Hid (Arr w9 Q 6 E) := HQ7.out.below hb79 HQ7.out.lt
            have HT9 : Hid (Arr w9 w0.heap.size 6 TR) := HT7.out.below hb79 HT7.out.lt
            have cst : w9.cell? ⟨P, st, none⟩ = some (.bool false) := by have := (HD7.out.below hb79 HD7.out.lt).c st st6; rw [HY.out] at this; exact this
            clear hb8 hb9 hz9 hk9 hr9 ho9 hf9))
       have h89 : w8.heap.size < w9.heap.size := HL9.out.lt
       have e8 : w8.heap.size ≠ b := by omega
       have HV8 : Hid (v.ownBlock ≠ some w8.heap.size) := HVN.out _ (by omega)
       have HFEH := HFE w8.heap.size (by omega)
       have HK : Hid (∀ w', Below w9.heap.size w9 w' -> (fun w' => (w'.cell? ⟨w0.heap.size, 0, none⟩ = some (.bool (TR 0)) ∧ w'.cell? ⟨w0.heap.size, 1, none⟩ = some (.bool (TR 1)) ∧ w'.cell? ⟨w0.heap.size, 2, none⟩ = some (.bool (TR 2)) ∧ w'.cell? ⟨w0.heap.size, 3, none⟩ = some (.bool (TR 3)) ∧ w'.cell? ⟨w0.heap.size, 4, none⟩ = some (.bool (TR 4)) ∧ w'.cell? ⟨w0.heap.size, 5, none⟩ = some (.bool (TR 5)))) w') := fun w' h => cells1 (HT9.out.below h HT9.out.lt)
       go_region_held3 (fun w' => (w'.cell? ⟨w0.heap.size, 0, none⟩ = some (.bool (TR 0)) ∧ w'.cell? ⟨w0.heap.size, 1, none⟩ = some (.bool (TR 1)) ∧ w'.cell? ⟨w0.heap.size, 2, none⟩ = some (.bool (TR 2)) ∧ w'.cell? ⟨w0.heap.size, 3, none⟩ = some (.bool (TR 3)) ∧ w'.cell? ⟨w0.heap.size, 4, none⟩ = some (.bool (TR 4)) ∧ w'.cell? ⟨w0.heap.size, 5, none⟩ = some (.bool (TR 5)))) (first
           | exact cells1 HT10.out
           | exact HK.out _ (Below.refl _ _).drew) (first
         | (go_at_call 123; refine (HFEH _ (show Hid _ from HW9.out.drew.wy) (show Hid _ from HL9.out.drew)).mono ?_; rintro e w10 ⟨rfl, ex, fr2, hend, hl10, hk10⟩
            have HW10 : Hid (Cw w10 b g cap gs G K f (begP G (fsOf f)) ns F v X) := HW9.out.drew.kq hk10 (by omega) (HVN.out _ (by omega))
            have HK10 : Hid (Kp b v v w w10) := HK9.out.drew.kq hk10 (by omega)
            have HL10 : Hid (Ls w10 w8.heap.size ([st] ++ ex) fr2) := hl10
            have HEN : Hid (EndOk G (fsOf f) TR [st] ex fr2) := hend
            have HT10 : Hid (Arr w10 w0.heap.size 6 TR) := HT9.out.drew.kq hk10 (by omega)
            have u3 : w10.cell? ⟨w.heap.size, 3, none⟩ = some (.int .i64 (ri : Int)) := (hk10.cell (by show w.heap.size < w9.heap.size; omega) (by omega) 3).trans p3
            have hlt10 : w8.heap.size < w10.heap.size := HL10.out.lt
            clear hend hl10 hk10))
       all_goals
         have hlas : LasOk G (fsOf f) st ([st] ++ ex) fr2 := HEN.out.las (by simp) (by simp) (walk_one G st) (by intro y hy; simp at hy; rw [hy]; exact hst) (by simp) (by rw [fs_len]; exact hf)
         have hall0 : ∀ y ∈ [st] ++ ex, holdsP G (fsOf f) r y = true := fun y hy => by
           rw [<- HTE.out]
           rcases List.mem_append.1 hy with hy | hy
           · simp at hy; rw [hy]; exact HTST.out
           · exact HEN.out.inS y hy
         obtain ⟨ls, hls⟩ : ∃ ls, ls = [st] ++ ex := ⟨_, rfl⟩
         rw [<- hls] at HL10 hlas hall0
         clear hls
         have hall : ∀ j, j < ls.length -> holdsP G (fsOf f) r (ls.getD j 0) = true := fun j hj => by
           rw [List.getD_eq_getElem?_getD, List.getElem?_eq_getElem hj, Option.getD_some]
           exact hall0 _ (List.getElem_mem hj)
         have HLA : Hid (LasOk G (fsOf f) st ls fr2) := hlas
         have hl40 : (lasT ls fr2).length <= 44 := by rw [lasT_len]; have := hlas.2.1; omega
         have hCl2 : (lasC ls ls.length fr2).length = 42 := lasC_len _ _ _
         obtain ⟨C2, hC2⟩ : ∃ C2, C2 = lasC ls ls.length fr2 := ⟨_, rfl⟩
         rw [<- hC2] at hCl2
         have HRGA : Hid (∀ W : World, Ls W w8.heap.size ls fr2 -> W.rangeAt w8.heap.size 0 C2) := fun W h => by rw [hC2]; exact h.range
         have HWL := fun W (h : Hid (Cw W b g cap gs G K f (begP G (fsOf f)) ns F v X)) => wLasso_is b g cap gs G K f (begP G (fsOf f)) ns F fr2 ls C2 hC2 v X W hlas.2.1 hlas.1 hlas.2.2.1 (by omega) h
         have HPL := fun vv XX W (hXX : XX.length + 40 * (bud r + 1) <= 1000000000) (h : Hid (Cw W b g cap gs G K f (begP G (fsOf f)) ns F vv XX)) => wPlaces_is b g cap gs G K f ns F r ri fr2 ls.length ls C2 hC2 vv XX W hlas.2.1 (Nat.le_refl _) hlas.2.2.1 hall hXX HRR h
         clear hlas hall hall0 hC2
         go_wp2_with (first
           | (refine loadT 166 42 Tryz.size166 Tryz.row166 (by rfl) _ (by rfl) w8.heap.size (by rfl) C2 (HRGA.out _ HL10.out) hCl2 ?_)
           | (refine loadT 166 42 Tryz.size166 Tryz.row166 (by rfl) _ (by rfl) w8.heap.size (by rfl) C2 (HRGA.out _ HL11.out) hCl2 ?_)
           | (go_at_call 124; refine (HWL _ HW10).mono ?_; rintro e w11 ⟨rfl, v11, hw11, hk11⟩
              have HW11 : Hid (Cw w11 b g cap gs G K f (begP G (fsOf f)) ns F v11 (X ++ lasT ls fr2)) := hw11
              have HK11 : Hid (Kp b v v11 w w11) := HK10.out.trans hk11
              have HL11 : Hid (Ls w11 w8.heap.size ls fr2) := hk11.ls HL10.out e8 HV8.out
              have t3 : w11.cell? ⟨w.heap.size, 3, none⟩ = some (.int .i64 (ri : Int)) := (hk11.cell (by omega) eb HV0.out 3).trans u3
              have cn11 := HL11.out.cn
              clear hw11 hk11)
           | (go_at_call 121; refine (HPL v11 _ _ (by rw [List.length_append]; omega) HW11).mono ?_; rintro e w12 ⟨rfl, v12, cs, hpl, hcl, hw12, hk12⟩
              have HPC : Hid (Plcs G (fsOf f) r ls ls.length cs) := hpl
              have HW12 : Hid (Cw w12 b g cap gs G K f (begP G (fsOf f)) ns F v12 (X ++ lasT ls fr2 ++ comT cs)) := hw12
              have HK12 : Hid (Kp b v v12 w w12) := HK11.out.trans hk12
              clear hpl hw12 hk12)
           | (go_at_call 93; refine (putN b g cap gs G K f (begP G (fsOf f)) ns F 111 111 v12 _ _ rfl (by omega) (by simp only [List.length_append]; omega) HW12).mono ?_; rintro e w13 ⟨rfl, v13, hw13, hk13⟩))
         refine bodyPost_ret (v := .tuple #[]) (by simp [results, Tryz.results97, go_sem]) rfl ⟨rfl, v13, lasT ls fr2 ++ (comT cs ++ [111]), crt_r1 HLA.out HPC.out, by rw [bud_r]; simp only [List.length_append, List.length_cons, List.length_nil]; omega, ?_, HK12.out.trans hk13⟩
         have : X ++ (lasT ls fr2 ++ (comT cs ++ [111])) = X ++ lasT ls fr2 ++ comT cs ++ [b8 111] := by simp; rfl
         rw [this]
         exact hw13
end
end Go.Proofs.YtcfbfdjmcabnkabGreat
