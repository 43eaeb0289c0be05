import Derived.Test.YtkjnhhbibaimfaaSp
namespace Go.Proofs.Ytkjnhhbibaimfaa
open Go.RowKit Fw
open Go.Deep (BT)
set_option linter.unusedVariables false

set_option maxRecDepth 100000 in
set_option maxHeartbeats 1000000 in
theorem holds_ax (gb : Nat) (G : Gph) (mk : Nat → ByteArray) (f s A : ByteArray) (X YY NX NY SZ Z : Nat → Bool) (HYY : Hid (YY = fun _ => false)) (hp : 0 < s.size) (hp1 : 1 < s.size) (hp2 : 2 ≤ s.size) (h0 : s[0].toNat = 65) (h1 : s[1].toNat = 88) (hA : s.extract 2 s.size = A) (HX : HoldIs gb G mk f A X) (HNX : Hid (OutIs gb G mk X NX)) (HNY : Hid (OutIs gb G mk YY NY)) (HS : SomeIs gb G mk f 88 NX NY SZ) (HNN : Hid (OutIs gb G mk SZ Z)) :
    HoldIs gb G mk f s Z := by
  intro w HG
  have hgl := HG.out.lt
  have H3 := three_new w
  have hc0 := below3 w (.cells #[.bool false, .bool false, .bool false, .bool false, .bool false, .bool false] 111) (.cells #[.bool false, .bool false, .bool false, .bool false, .bool false, .bool false] 111) (.cells #[.bool false, .bool false, .bool false, .bool false, .bool false, .bool false] 111)
  have HR0 : Hid _ := H3.1
  have HX0 : Hid _ := H3.2.1
  have HY0 : Hid _ := H3.2.2
  clear H3
  have HX' : Hid (HoldIs gb G mk f A X) := HX
  have HS' : Hid (SomeIs gb G mk f 88 NX NY SZ) := HS
  clear HX HS
  have k1 : (1 : Int) < (s.size : Int) := by omega
  have k2 : (2 : Int) ≤ (s.size : Int) := by omega
  go_enter Try.func58, Try.ntmps58
  go_wp2_with (first
    | (go_at_call 58; refine (HX'.out _ (HG.out.below hc0 hgl)).mono ?_; rintro e w1 ⟨rfl, hb1⟩
       have hc1 : Below w.heap.size w w1 := Below.to hc0 hb1
       have HR1 : Hid (Arr w1 w.heap.size 6 (fun _ => false)) := HR0.out.below hb1 HR0.out.lt
       have HX1 : Hid (Arr w1 (w.heap.size + 1) 6 (fun _ => false)) := HX0.out.below hb1 HX0.out.lt
       have HY1 : Hid (Arr w1 (w.heap.size + 1 + 1) 6 (fun _ => false)) := HY0.out.below hb1 HY0.out.lt)
    | (refine store6 (by rfl) _ _ (by rfl) (w.heap.size + 1) (fun _ => false) X (by rfl) (by rfl) HX1.out ?_; intro w2 hb2 hz2 hk2 HX2
       have hc2 : Below w.heap.size w w2 := hc1.trans (hb2.mono (by omega))
       have HR2 : Hid (Arr w2 w.heap.size 6 (fun _ => false)) := HR1.out.otherK hz2 hk2 (by omega)
       have HY2 : Hid (Arr w2 (w.heap.size + 1 + 1) 6 YY) := (HY1.out.otherK hz2 hk2 (by omega)).congr fun j _ => by rw [HYY.out]
       have HX2' : Hid (Arr w2 (w.heap.size + 1) 6 X) := HX2
       clear hz2 hk2 HX2))
  have HK : Hid (∀ w', Below w2.heap.size w2 w' → (fun w' => (w'.cell? ⟨(w.heap.size + 1), 0, none⟩ = some (.bool (X 0)) ∧ w'.cell? ⟨(w.heap.size + 1), 1, none⟩ = some (.bool (X 1)) ∧ w'.cell? ⟨(w.heap.size + 1), 2, none⟩ = some (.bool (X 2)) ∧ w'.cell? ⟨(w.heap.size + 1), 3, none⟩ = some (.bool (X 3)) ∧ w'.cell? ⟨(w.heap.size + 1), 4, none⟩ = some (.bool (X 4)) ∧ w'.cell? ⟨(w.heap.size + 1), 5, none⟩ = some (.bool (X 5))) ∧ (w'.cell? ⟨(w.heap.size + 1 + 1), 0, none⟩ = some (.bool (YY 0)) ∧ w'.cell? ⟨(w.heap.size + 1 + 1), 1, none⟩ = some (.bool (YY 1)) ∧ w'.cell? ⟨(w.heap.size + 1 + 1), 2, none⟩ = some (.bool (YY 2)) ∧ w'.cell? ⟨(w.heap.size + 1 + 1), 3, none⟩ = some (.bool (YY 3)) ∧ w'.cell? ⟨(w.heap.size + 1 + 1), 4, none⟩ = some (.bool (YY 4)) ∧ w'.cell? ⟨(w.heap.size + 1 + 1), 5, none⟩ = some (.bool (YY 5)))) w') := fun w' h => ⟨cells1 (HX2'.out.below h HX2'.out.lt), cells1 (HY2.out.below h HY2.out.lt)⟩
  go_region_held3 (fun w' => (w'.cell? ⟨(w.heap.size + 1), 0, none⟩ = some (.bool (X 0)) ∧ w'.cell? ⟨(w.heap.size + 1), 1, none⟩ = some (.bool (X 1)) ∧ w'.cell? ⟨(w.heap.size + 1), 2, none⟩ = some (.bool (X 2)) ∧ w'.cell? ⟨(w.heap.size + 1), 3, none⟩ = some (.bool (X 3)) ∧ w'.cell? ⟨(w.heap.size + 1), 4, none⟩ = some (.bool (X 4)) ∧ w'.cell? ⟨(w.heap.size + 1), 5, none⟩ = some (.bool (X 5))) ∧ (w'.cell? ⟨(w.heap.size + 1 + 1), 0, none⟩ = some (.bool (YY 0)) ∧ w'.cell? ⟨(w.heap.size + 1 + 1), 1, none⟩ = some (.bool (YY 1)) ∧ w'.cell? ⟨(w.heap.size + 1 + 1), 2, none⟩ = some (.bool (YY 2)) ∧ w'.cell? ⟨(w.heap.size + 1 + 1), 3, none⟩ = some (.bool (YY 3)) ∧ w'.cell? ⟨(w.heap.size + 1 + 1), 4, none⟩ = some (.bool (YY 4)) ∧ w'.cell? ⟨(w.heap.size + 1 + 1), 5, none⟩ = some (.bool (YY 5)))) (first
      | exact HK.out _ (Below.refl _ _).drew
      | exact HK.out _ hd5
      | exact HK.out _ hd6
      | exact HK.out _ hd7
      | exact HK.out _ hd8
      | exact ⟨cells1 ((HX2'.out.below hd8 HX2'.out.lt).otherK hz9 hk9 (by omega)), cells1 ((HY2.out.below hd8 HY2.out.lt).otherK hz9 hk9 (by omega))⟩) (first
    | (go_at_call 83; refine (HS'.out _ (HG.out.below (Below.to hc2 hd6) hgl)).mono ?_; rintro e w7 ⟨rfl, hb7⟩
       have hd7 : Below w2.heap.size w2 w7 := Below.to hd6 hb7)
    | (go_at_call_of 79 (X 0); refine (HNX.out _ (HG.out.below (hc2.drew) hgl)).mono ?_; rintro e w5 ⟨rfl, hb5⟩
       have hd5 : Below w2.heap.size w2 w5 := Below.dr hb5)
    | (go_at_call_of 79 (YY 0); refine (HNY.out _ (HG.out.below (Below.to hc2 hd5) hgl)).mono ?_; rintro e w6 ⟨rfl, hb6⟩
       have hd6 : Below w2.heap.size w2 w6 := Below.to hd5 hb6)
    | (go_at_call_of 79 SZ; refine (HNN.out _ (HG.out.below (Below.to hc2 hd7) hgl)).mono ?_; rintro e w8 ⟨rfl, hb8⟩
       have hd8 : Below w2.heap.size w2 w8 := Below.to hd7 hb8
       have HR8 : Hid (Arr w8 w.heap.size 6 (fun _ => false)) := HR2.out.below hd8 HR2.out.lt
       obtain ⟨w9, hrun9, hb9, hz9, hk9, HR9⟩ := stores6 HR8.out Z))
  all_goals
    go_wp2_with fail
    exact bodyPost_ret (result6 Try.results58 _ _ w.heap.size _ rfl HR9) rfl ⟨rfl, (Below.to hc2 hd8).trans hb9⟩

set_option maxRecDepth 100000 in
set_option maxHeartbeats 1000000 in
theorem holds_au (gb : Nat) (G : Gph) (mk : Nat → ByteArray) (f s A B : ByteArray) (X YY NX NY SZ Z : Nat → Bool) (hp : 0 < s.size) (hp1 : 1 < s.size) (h0 : s[0].toNat = 65) (h1 : s[1].toNat = 91) (HQ : PartsIs s A B 2 85) (HX : HoldIs gb G mk f A X) (HY : HoldIs gb G mk f B YY) (HNX : Hid (OutIs gb G mk X NX)) (HNY : Hid (OutIs gb G mk YY NY)) (HS : SomeIs gb G mk f 82 NX NY SZ) (HNN : Hid (OutIs gb G mk SZ Z)) :
    HoldIs gb G mk f s Z := by
  intro w HG
  have hgl := HG.out.lt
  have H3 := three_new w
  have hc0 := below3 w (.cells #[.bool false, .bool false, .bool false, .bool false, .bool false, .bool false] 111) (.cells #[.bool false, .bool false, .bool false, .bool false, .bool false, .bool false] 111) (.cells #[.bool false, .bool false, .bool false, .bool false, .bool false, .bool false] 111)
  have HR0 : Hid _ := H3.1
  have HX0 : Hid _ := H3.2.1
  have HY0 : Hid _ := H3.2.2
  clear H3
  have HQ' : Hid (PartsIs s A B 2 85) := HQ
  have HX' : Hid (HoldIs gb G mk f A X) := HX
  have HY' : Hid (HoldIs gb G mk f B YY) := HY
  have HS' : Hid (SomeIs gb G mk f 82 NX NY SZ) := HS
  clear HQ HX HY HS
  have k1 : (1 : Int) < (s.size : Int) := by omega
  go_enter Try.func58, Try.ntmps58
  go_wp2_with (first
    | (go_at_call 80; refine (HQ'.out _).mono ?_; rintro e w0 ⟨rfl, n, rfl⟩
       have hcd := below_drewN hc0 n)
    | (go_at_call_of 58 A; refine (HX'.out _ (HG.out.below hcd hgl)).mono ?_; rintro e w1 ⟨rfl, hb1⟩
       have hc1 : Below w.heap.size w w1 := Below.to hcd hb1
       have HR1 : Hid (Arr w1 w.heap.size 6 (fun _ => false)) := (HR0.out.drewN n).below hb1 (HR0.out.drewN n).lt
       have HX1 : Hid (Arr w1 (w.heap.size + 1) 6 (fun _ => false)) := (HX0.out.drewN n).below hb1 (HX0.out.drewN n).lt
       have HY1 : Hid (Arr w1 (w.heap.size + 1 + 1) 6 (fun _ => false)) := (HY0.out.drewN n).below hb1 (HY0.out.drewN n).lt)
    | (refine store6 (by rfl) _ _ (by rfl) (w.heap.size + 1) (fun _ => false) X (by rfl) (by rfl) HX1.out ?_; intro w2 hb2 hz2 hk2 HX2
       have hc2 : Below w.heap.size w w2 := hc1.trans (hb2.mono (by omega))
       have HR2 : Hid (Arr w2 w.heap.size 6 (fun _ => false)) := HR1.out.otherK hz2 hk2 (by omega)
       have HY2 : Hid (Arr w2 (w.heap.size + 1 + 1) 6 (fun _ => false)) := HY1.out.otherK hz2 hk2 (by omega)
       have HX2' : Hid (Arr w2 (w.heap.size + 1) 6 X) := HX2
       clear hz2 hk2 HX2)
    | (go_at_call_of 58 B; refine (HY'.out _ (HG.out.below hc2 hgl)).mono ?_; rintro e w3 ⟨rfl, hb3⟩
       have hc3 : Below w.heap.size w w3 := Below.to hc2 hb3
       have HR3 : Hid (Arr w3 w.heap.size 6 (fun _ => false)) := HR2.out.below hb3 HR2.out.lt
       have HX3 : Hid (Arr w3 (w.heap.size + 1) 6 X) := HX2'.out.below hb3 HX2'.out.lt
       have HY3 : Hid (Arr w3 (w.heap.size + 1 + 1) 6 (fun _ => false)) := HY2.out.below hb3 HY2.out.lt)
    | (refine store6 (by rfl) _ _ (by rfl) (w.heap.size + 1 + 1) (fun _ => false) YY (by rfl) (by rfl) HY3.out ?_; intro w4 hb4 hz4 hk4 HY4
       have hc4 : Below w.heap.size w w4 := hc3.trans (hb4.mono (by omega))
       have HR4 : Hid (Arr w4 w.heap.size 6 (fun _ => false)) := HR3.out.otherK hz4 hk4 (by omega)
       have HX4 : Hid (Arr w4 (w.heap.size + 1) 6 X) := HX3.out.otherK hz4 hk4 (by omega)
       have HY4' : Hid (Arr w4 (w.heap.size + 1 + 1) 6 YY) := HY4
       clear hz4 hk4 HY4))
  have HK : Hid (∀ w', Below w4.heap.size w4 w' → (fun w' => (w'.cell? ⟨(w.heap.size + 1), 0, none⟩ = some (.bool (X 0)) ∧ w'.cell? ⟨(w.heap.size + 1), 1, none⟩ = some (.bool (X 1)) ∧ w'.cell? ⟨(w.heap.size + 1), 2, none⟩ = some (.bool (X 2)) ∧ w'.cell? ⟨(w.heap.size + 1), 3, none⟩ = some (.bool (X 3)) ∧ w'.cell? ⟨(w.heap.size + 1), 4, none⟩ = some (.bool (X 4)) ∧ w'.cell? ⟨(w.heap.size + 1), 5, none⟩ = some (.bool (X 5))) ∧ (w'.cell? ⟨(w.heap.size + 1 + 1), 0, none⟩ = some (.bool (YY 0)) ∧ w'.cell? ⟨(w.heap.size + 1 + 1), 1, none⟩ = some (.bool (YY 1)) ∧ w'.cell? ⟨(w.heap.size + 1 + 1), 2, none⟩ = some (.bool (YY 2)) ∧ w'.cell? ⟨(w.heap.size + 1 + 1), 3, none⟩ = some (.bool (YY 3)) ∧ w'.cell? ⟨(w.heap.size + 1 + 1), 4, none⟩ = some (.bool (YY 4)) ∧ w'.cell? ⟨(w.heap.size + 1 + 1), 5, none⟩ = some (.bool (YY 5)))) w') := fun w' h => ⟨cells1 (HX4.out.below h HX4.out.lt), cells1 (HY4'.out.below h HY4'.out.lt)⟩
  go_region_held3 (fun w' => (w'.cell? ⟨(w.heap.size + 1), 0, none⟩ = some (.bool (X 0)) ∧ w'.cell? ⟨(w.heap.size + 1), 1, none⟩ = some (.bool (X 1)) ∧ w'.cell? ⟨(w.heap.size + 1), 2, none⟩ = some (.bool (X 2)) ∧ w'.cell? ⟨(w.heap.size + 1), 3, none⟩ = some (.bool (X 3)) ∧ w'.cell? ⟨(w.heap.size + 1), 4, none⟩ = some (.bool (X 4)) ∧ w'.cell? ⟨(w.heap.size + 1), 5, none⟩ = some (.bool (X 5))) ∧ (w'.cell? ⟨(w.heap.size + 1 + 1), 0, none⟩ = some (.bool (YY 0)) ∧ w'.cell? ⟨(w.heap.size + 1 + 1), 1, none⟩ = some (.bool (YY 1)) ∧ w'.cell? ⟨(w.heap.size + 1 + 1), 2, none⟩ = some (.bool (YY 2)) ∧ w'.cell? ⟨(w.heap.size + 1 + 1), 3, none⟩ = some (.bool (YY 3)) ∧ w'.cell? ⟨(w.heap.size + 1 + 1), 4, none⟩ = some (.bool (YY 4)) ∧ w'.cell? ⟨(w.heap.size + 1 + 1), 5, none⟩ = some (.bool (YY 5)))) (first
      | exact HK.out _ (Below.refl _ _).drew
      | exact HK.out _ hd5
      | exact HK.out _ hd6
      | exact HK.out _ hd7
      | exact HK.out _ hd8
      | exact ⟨cells1 ((HX4.out.below hd8 HX4.out.lt).otherK hz9 hk9 (by omega)), cells1 ((HY4'.out.below hd8 HY4'.out.lt).otherK hz9 hk9 (by omega))⟩) (first
    | (go_at_call 83; refine (HS'.out _ (HG.out.below (Below.to hc4 hd6) hgl)).mono ?_; rintro e w7 ⟨rfl, hb7⟩
       have hd7 : Below w4.heap.size w4 w7 := Below.to hd6 hb7)
    | (go_at_call_of 79 (X 0); refine (HNX.out _ (HG.out.below (hc4.drew) hgl)).mono ?_; rintro e w5 ⟨rfl, hb5⟩
       have hd5 : Below w4.heap.size w4 w5 := Below.dr hb5)
    | (go_at_call_of 79 (YY 0); refine (HNY.out _ (HG.out.below (Below.to hc4 hd5) hgl)).mono ?_; rintro e w6 ⟨rfl, hb6⟩
       have hd6 : Below w4.heap.size w4 w6 := Below.to hd5 hb6)
    | (go_at_call_of 79 SZ; refine (HNN.out _ (HG.out.below (Below.to hc4 hd7) hgl)).mono ?_; rintro e w8 ⟨rfl, hb8⟩
       have hd8 : Below w4.heap.size w4 w8 := Below.to hd7 hb8
       have HR8 : Hid (Arr w8 w.heap.size 6 (fun _ => false)) := HR4.out.below hd8 HR4.out.lt
       obtain ⟨w9, hrun9, hb9, hz9, hk9, HR9⟩ := stores6 HR8.out Z))
  all_goals
    go_wp2_with fail
    exact bodyPost_ret (result6 Try.results58 _ _ w.heap.size _ rfl HR9) rfl ⟨rfl, (Below.to hc4 hd8).trans hb9⟩

set_option maxRecDepth 100000 in
set_option maxHeartbeats 1000000 in
theorem holds_ar (gb : Nat) (G : Gph) (mk : Nat → ByteArray) (f s A B : ByteArray) (X YY NX NY SZ Z : Nat → Bool) (hp : 0 < s.size) (hp1 : 1 < s.size) (h0 : s[0].toNat = 65) (h1 : s[1].toNat = 91) (HQ : PartsIs s A B 2 82) (HX : HoldIs gb G mk f A X) (HY : HoldIs gb G mk f B YY) (HNX : Hid (OutIs gb G mk X NX)) (HNY : Hid (OutIs gb G mk YY NY)) (HS : SomeIs gb G mk f 85 NX NY SZ) (HNN : Hid (OutIs gb G mk SZ Z)) :
    HoldIs gb G mk f s Z := by
  intro w HG
  have hgl := HG.out.lt
  have H3 := three_new w
  have hc0 := below3 w (.cells #[.bool false, .bool false, .bool false, .bool false, .bool false, .bool false] 111) (.cells #[.bool false, .bool false, .bool false, .bool false, .bool false, .bool false] 111) (.cells #[.bool false, .bool false, .bool false, .bool false, .bool false, .bool false] 111)
  have HR0 : Hid _ := H3.1
  have HX0 : Hid _ := H3.2.1
  have HY0 : Hid _ := H3.2.2
  clear H3
  have HQ' : Hid (PartsIs s A B 2 82) := HQ
  have HX' : Hid (HoldIs gb G mk f A X) := HX
  have HY' : Hid (HoldIs gb G mk f B YY) := HY
  have HS' : Hid (SomeIs gb G mk f 85 NX NY SZ) := HS
  clear HQ HX HY HS
  have k1 : (1 : Int) < (s.size : Int) := by omega
  go_enter Try.func58, Try.ntmps58
  go_wp2_with (first
    | (go_at_call 80; refine (HQ'.out _).mono ?_; rintro e w0 ⟨rfl, n, rfl⟩
       have hcd := below_drewN hc0 n)
    | (go_at_call_of 58 A; refine (HX'.out _ (HG.out.below hcd hgl)).mono ?_; rintro e w1 ⟨rfl, hb1⟩
       have hc1 : Below w.heap.size w w1 := Below.to hcd hb1
       have HR1 : Hid (Arr w1 w.heap.size 6 (fun _ => false)) := (HR0.out.drewN n).below hb1 (HR0.out.drewN n).lt
       have HX1 : Hid (Arr w1 (w.heap.size + 1) 6 (fun _ => false)) := (HX0.out.drewN n).below hb1 (HX0.out.drewN n).lt
       have HY1 : Hid (Arr w1 (w.heap.size + 1 + 1) 6 (fun _ => false)) := (HY0.out.drewN n).below hb1 (HY0.out.drewN n).lt)
    | (refine store6 (by rfl) _ _ (by rfl) (w.heap.size + 1) (fun _ => false) X (by rfl) (by rfl) HX1.out ?_; intro w2 hb2 hz2 hk2 HX2
       have hc2 : Below w.heap.size w w2 := hc1.trans (hb2.mono (by omega))
       have HR2 : Hid (Arr w2 w.heap.size 6 (fun _ => false)) := HR1.out.otherK hz2 hk2 (by omega)
       have HY2 : Hid (Arr w2 (w.heap.size + 1 + 1) 6 (fun _ => false)) := HY1.out.otherK hz2 hk2 (by omega)
       have HX2' : Hid (Arr w2 (w.heap.size + 1) 6 X) := HX2
       clear hz2 hk2 HX2)
    | (go_at_call_of 58 B; refine (HY'.out _ (HG.out.below hc2 hgl)).mono ?_; rintro e w3 ⟨rfl, hb3⟩
       have hc3 : Below w.heap.size w w3 := Below.to hc2 hb3
       have HR3 : Hid (Arr w3 w.heap.size 6 (fun _ => false)) := HR2.out.below hb3 HR2.out.lt
       have HX3 : Hid (Arr w3 (w.heap.size + 1) 6 X) := HX2'.out.below hb3 HX2'.out.lt
       have HY3 : Hid (Arr w3 (w.heap.size + 1 + 1) 6 (fun _ => false)) := HY2.out.below hb3 HY2.out.lt)
    | (refine store6 (by rfl) _ _ (by rfl) (w.heap.size + 1 + 1) (fun _ => false) YY (by rfl) (by rfl) HY3.out ?_; intro w4 hb4 hz4 hk4 HY4
       have hc4 : Below w.heap.size w w4 := hc3.trans (hb4.mono (by omega))
       have HR4 : Hid (Arr w4 w.heap.size 6 (fun _ => false)) := HR3.out.otherK hz4 hk4 (by omega)
       have HX4 : Hid (Arr w4 (w.heap.size + 1) 6 X) := HX3.out.otherK hz4 hk4 (by omega)
       have HY4' : Hid (Arr w4 (w.heap.size + 1 + 1) 6 YY) := HY4
       clear hz4 hk4 HY4))
  have HK : Hid (∀ w', Below w4.heap.size w4 w' → (fun w' => (w'.cell? ⟨(w.heap.size + 1), 0, none⟩ = some (.bool (X 0)) ∧ w'.cell? ⟨(w.heap.size + 1), 1, none⟩ = some (.bool (X 1)) ∧ w'.cell? ⟨(w.heap.size + 1), 2, none⟩ = some (.bool (X 2)) ∧ w'.cell? ⟨(w.heap.size + 1), 3, none⟩ = some (.bool (X 3)) ∧ w'.cell? ⟨(w.heap.size + 1), 4, none⟩ = some (.bool (X 4)) ∧ w'.cell? ⟨(w.heap.size + 1), 5, none⟩ = some (.bool (X 5))) ∧ (w'.cell? ⟨(w.heap.size + 1 + 1), 0, none⟩ = some (.bool (YY 0)) ∧ w'.cell? ⟨(w.heap.size + 1 + 1), 1, none⟩ = some (.bool (YY 1)) ∧ w'.cell? ⟨(w.heap.size + 1 + 1), 2, none⟩ = some (.bool (YY 2)) ∧ w'.cell? ⟨(w.heap.size + 1 + 1), 3, none⟩ = some (.bool (YY 3)) ∧ w'.cell? ⟨(w.heap.size + 1 + 1), 4, none⟩ = some (.bool (YY 4)) ∧ w'.cell? ⟨(w.heap.size + 1 + 1), 5, none⟩ = some (.bool (YY 5)))) w') := fun w' h => ⟨cells1 (HX4.out.below h HX4.out.lt), cells1 (HY4'.out.below h HY4'.out.lt)⟩
  go_region_held3 (fun w' => (w'.cell? ⟨(w.heap.size + 1), 0, none⟩ = some (.bool (X 0)) ∧ w'.cell? ⟨(w.heap.size + 1), 1, none⟩ = some (.bool (X 1)) ∧ w'.cell? ⟨(w.heap.size + 1), 2, none⟩ = some (.bool (X 2)) ∧ w'.cell? ⟨(w.heap.size + 1), 3, none⟩ = some (.bool (X 3)) ∧ w'.cell? ⟨(w.heap.size + 1), 4, none⟩ = some (.bool (X 4)) ∧ w'.cell? ⟨(w.heap.size + 1), 5, none⟩ = some (.bool (X 5))) ∧ (w'.cell? ⟨(w.heap.size + 1 + 1), 0, none⟩ = some (.bool (YY 0)) ∧ w'.cell? ⟨(w.heap.size + 1 + 1), 1, none⟩ = some (.bool (YY 1)) ∧ w'.cell? ⟨(w.heap.size + 1 + 1), 2, none⟩ = some (.bool (YY 2)) ∧ w'.cell? ⟨(w.heap.size + 1 + 1), 3, none⟩ = some (.bool (YY 3)) ∧ w'.cell? ⟨(w.heap.size + 1 + 1), 4, none⟩ = some (.bool (YY 4)) ∧ w'.cell? ⟨(w.heap.size + 1 + 1), 5, none⟩ = some (.bool (YY 5)))) (first
      | exact HK.out _ (Below.refl _ _).drew
      | exact HK.out _ hd5
      | exact HK.out _ hd6
      | exact HK.out _ hd7
      | exact HK.out _ hd8
      | exact ⟨cells1 ((HX4.out.below hd8 HX4.out.lt).otherK hz9 hk9 (by omega)), cells1 ((HY4'.out.below hd8 HY4'.out.lt).otherK hz9 hk9 (by omega))⟩) (first
    | (go_at_call 83; refine (HS'.out _ (HG.out.below (Below.to hc4 hd6) hgl)).mono ?_; rintro e w7 ⟨rfl, hb7⟩
       have hd7 : Below w4.heap.size w4 w7 := Below.to hd6 hb7)
    | (go_at_call_of 79 (X 0); refine (HNX.out _ (HG.out.below (hc4.drew) hgl)).mono ?_; rintro e w5 ⟨rfl, hb5⟩
       have hd5 : Below w4.heap.size w4 w5 := Below.dr hb5)
    | (go_at_call_of 79 (YY 0); refine (HNY.out _ (HG.out.below (Below.to hc4 hd5) hgl)).mono ?_; rintro e w6 ⟨rfl, hb6⟩
       have hd6 : Below w4.heap.size w4 w6 := Below.to hd5 hb6)
    | (go_at_call_of 79 SZ; refine (HNN.out _ (HG.out.below (Below.to hc4 hd7) hgl)).mono ?_; rintro e w8 ⟨rfl, hb8⟩
       have hd8 : Below w4.heap.size w4 w8 := Below.to hd7 hb8
       have HR8 : Hid (Arr w8 w.heap.size 6 (fun _ => false)) := HR4.out.below hd8 HR4.out.lt
       obtain ⟨w9, hrun9, hb9, hz9, hk9, HR9⟩ := stores6 HR8.out Z))
  all_goals
    go_wp2_with fail
    exact bodyPost_ret (result6 Try.results58 _ _ w.heap.size _ rfl HR9) rfl ⟨rfl, (Below.to hc4 hd8).trans hb9⟩

end Go.Proofs.Ytkjnhhbibaimfaa
