import Derived.Test.YtkjnhhbibaimfaaSo
namespace Go.Proofs.Ytkjnhhbibaimfaa
open Go.RowKit Fw
open Go.Deep (BT)
set_option linter.unusedVariables false

/-- what somewhere is to tell of two sets -/
def SomeIs (gb : Nat) (G : Gph) (mk : Nat → ByteArray) (f : ByteArray) (c : Nat) (X Y Z : Nat → Bool) : Prop := ∀ w, Hid (Gm w gb G mk) → Calls Try.prog 83 #[.pointer (some ⟨gb, 0, none⟩), .int .u8 (c : Int), .agg (six X), .agg (six Y), .string f] w fun e w' => e = .returned (.agg (six Z)) ∧ Below w.heap.size w w'

theorem three_new (w : World) : Arr (((w.alloc (.cells #[.bool false, .bool false, .bool false, .bool false, .bool false, .bool false] 111)).alloc (.cells #[.bool false, .bool false, .bool false, .bool false, .bool false, .bool false] 111)).alloc (.cells #[.bool false, .bool false, .bool false, .bool false, .bool false, .bool false] 111)) w.heap.size 6 (fun _ => false)
    ∧ Arr (((w.alloc (.cells #[.bool false, .bool false, .bool false, .bool false, .bool false, .bool false] 111)).alloc (.cells #[.bool false, .bool false, .bool false, .bool false, .bool false, .bool false] 111)).alloc (.cells #[.bool false, .bool false, .bool false, .bool false, .bool false, .bool false] 111)) (w.heap.size + 1) 6 (fun _ => false)
    ∧ Arr (((w.alloc (.cells #[.bool false, .bool false, .bool false, .bool false, .bool false, .bool false] 111)).alloc (.cells #[.bool false, .bool false, .bool false, .bool false, .bool false, .bool false] 111)).alloc (.cells #[.bool false, .bool false, .bool false, .bool false, .bool false, .bool false] 111)) (w.heap.size + 1 + 1) 6 (fun _ => false) :=
  ⟨((arr_zero w 111).alloc _).alloc _, (arr_at (w.alloc _) (fun _ => false) 111 _ (by simp)).alloc _, arr_at _ (fun _ => false) 111 _ (by simp)⟩

set_option maxRecDepth 100000 in
set_option maxHeartbeats 1000000 in
theorem holds_ex (gb : Nat) (G : Gph) (mk : Nat → ByteArray) (f s A : ByteArray) (X Z : Nat → Bool) (hp : 0 < s.size) (hp1 : 1 < s.size) (hp2 : 2 ≤ s.size) (h0 : s[0].toNat = 69) (h1 : s[1].toNat = 88) (hA : s.extract 2 s.size = A) (HX : HoldIs gb G mk f A X) (HS : SomeIs gb G mk f 88 X (fun _ => false) Z) :
    HoldIs gb G mk f s Z := by
  intro w HG
  have hgl := HG.out.lt
  have H3 := three_new w
  have hc0 := below3 w (.cells #[.bool false, .bool false, .bool false, .bool false, .bool false, .bool false] 111) (.cells #[.bool false, .bool false, .bool false, .bool false, .bool false, .bool false] 111) (.cells #[.bool false, .bool false, .bool false, .bool false, .bool false, .bool false] 111)
  have HR0 : Hid _ := H3.1
  have HX0 : Hid _ := H3.2.1
  have HY0 : Hid _ := H3.2.2
  clear H3
  have HX' : Hid (HoldIs gb G mk f A X) := HX
  have HS' : Hid (SomeIs gb G mk f 88 X (fun _ => false) Z) := HS
  clear HX HS
  have k1 : (1 : Int) < (s.size : Int) := by omega
  have k2 : (2 : Int) ≤ (s.size : Int) := by omega
  go_enter Try.func58, Try.ntmps58
  go_wp2_with (first
    | (go_at_call 58; refine (HX'.out _ (HG.out.below hc0 hgl)).mono ?_; rintro e w1 ⟨rfl, hb1⟩
       have hc1 : Below w.heap.size w w1 := Below.to hc0 hb1
       have HR1 : Hid (Arr w1 w.heap.size 6 (fun _ => false)) := HR0.out.below hb1 HR0.out.lt
       have HX1 : Hid (Arr w1 (w.heap.size + 1) 6 (fun _ => false)) := HX0.out.below hb1 HX0.out.lt
       have HY1 : Hid (Arr w1 (w.heap.size + 1 + 1) 6 (fun _ => false)) := HY0.out.below hb1 HY0.out.lt)
    | (refine store6 (by rfl) _ _ (by rfl) (w.heap.size + 1) (fun _ => false) X (by rfl) (by rfl) HX1.out ?_; intro w2 hb2 hz2 hk2 HX2
       have hc2 : Below w.heap.size w w2 := hc1.trans (hb2.mono (by omega))
       have HR2 : Hid (Arr w2 w.heap.size 6 (fun _ => false)) := HR1.out.otherK hz2 hk2 (by omega)
       have HY2 : Hid (Arr w2 (w.heap.size + 1 + 1) 6 (fun _ => false)) := HY1.out.otherK hz2 hk2 (by omega)
       have HX2' : Hid (Arr w2 (w.heap.size + 1) 6 X) := HX2
       clear hz2 hk2 HX2)
    | (refine load6 (by rfl) _ (by rfl) (w.heap.size + 1) (by rfl) X HX2'.out ?_)
    | (refine load6 (by rfl) _ (by rfl) (w.heap.size + 1 + 1) (by rfl) (fun _ => false) HY2.out ?_)
    | (go_at_call 83; refine (HS'.out _ (HG.out.below hc2 hgl)).mono ?_; rintro e w5 ⟨rfl, hb5⟩
       have HR5 : Hid (Arr w5 w.heap.size 6 (fun _ => false)) := HR2.out.below hb5 HR2.out.lt
       have hc5 : Below w.heap.size w w5 := Below.to hc2 hb5)
    | (refine store6 (by rfl) _ _ (by rfl) w.heap.size (fun _ => false) Z (by rfl) (by rfl) HR5.out ?_; intro w6 hb6 hz6 hk6 HR6))
  exact bodyPost_ret (result6 Try.results58 _ _ w.heap.size _ rfl HR6) rfl ⟨rfl, hc5.trans hb6⟩

set_option maxRecDepth 100000 in
set_option maxHeartbeats 1000000 in
theorem holds_ew (gb : Nat) (G : Gph) (mk : Nat → ByteArray) (f s A B : ByteArray) (c : Nat) (X Y Z : Nat → Bool) (hp : 0 < s.size) (hp1 : 1 < s.size) (h0 : s[0].toNat = 69) (h1 : s[1].toNat = 91) (HQ : PartsIs s A B 2 c) (HX : HoldIs gb G mk f A X) (HY : HoldIs gb G mk f B Y) (HS : SomeIs gb G mk f c X Y Z) :
    HoldIs gb G mk f s Z := by
  intro w HG
  have hgl := HG.out.lt
  have H3 := three_new w
  have hc0 := below3 w (.cells #[.bool false, .bool false, .bool false, .bool false, .bool false, .bool false] 111) (.cells #[.bool false, .bool false, .bool false, .bool false, .bool false, .bool false] 111) (.cells #[.bool false, .bool false, .bool false, .bool false, .bool false, .bool false] 111)
  have HR0 : Hid _ := H3.1
  have HX0 : Hid _ := H3.2.1
  have HY0 : Hid _ := H3.2.2
  clear H3
  have HQ' : Hid (PartsIs s A B 2 c) := HQ
  have HX' : Hid (HoldIs gb G mk f A X) := HX
  have HY' : Hid (HoldIs gb G mk f B Y) := HY
  have HS' : Hid (SomeIs gb G mk f c X Y Z) := HS
  clear HQ HX HY HS
  have k1 : (1 : Int) < (s.size : Int) := by omega
  go_enter Try.func58, Try.ntmps58
  go_wp2_with (first
    | (go_at_call 80; refine (HQ'.out _).mono ?_; rintro e w0 ⟨rfl, n, rfl⟩
       have hcd := below_drewN hc0 n)
    | (go_at_call_of 58 A; refine (HX'.out _ (HG.out.below hcd hgl)).mono ?_; rintro e w1 ⟨rfl, hb1⟩
       have hc1 : Below w.heap.size w w1 := Below.to hcd hb1
       have HR1 : Hid (Arr w1 w.heap.size 6 (fun _ => false)) := (HR0.out.drewN n).below hb1 (HR0.out.drewN n).lt
       have HX1 : Hid (Arr w1 (w.heap.size + 1) 6 (fun _ => false)) := (HX0.out.drewN n).below hb1 (HX0.out.drewN n).lt
       have HY1 : Hid (Arr w1 (w.heap.size + 1 + 1) 6 (fun _ => false)) := (HY0.out.drewN n).below hb1 (HY0.out.drewN n).lt)
    | (refine store6 (by rfl) _ _ (by rfl) (w.heap.size + 1) (fun _ => false) X (by rfl) (by rfl) HX1.out ?_; intro w2 hb2 hz2 hk2 HX2
       have hc2 : Below w.heap.size w w2 := hc1.trans (hb2.mono (by omega))
       have HR2 : Hid (Arr w2 w.heap.size 6 (fun _ => false)) := HR1.out.otherK hz2 hk2 (by omega)
       have HY2 : Hid (Arr w2 (w.heap.size + 1 + 1) 6 (fun _ => false)) := HY1.out.otherK hz2 hk2 (by omega)
       have HX2' : Hid (Arr w2 (w.heap.size + 1) 6 X) := HX2
       clear hz2 hk2 HX2)
    | (go_at_call_of 58 B; refine (HY'.out _ (HG.out.below hc2 hgl)).mono ?_; rintro e w3 ⟨rfl, hb3⟩
       have hc3 : Below w.heap.size w w3 := Below.to hc2 hb3
       have HR3 : Hid (Arr w3 w.heap.size 6 (fun _ => false)) := HR2.out.below hb3 HR2.out.lt
       have HX3 : Hid (Arr w3 (w.heap.size + 1) 6 X) := HX2'.out.below hb3 HX2'.out.lt
       have HY3 : Hid (Arr w3 (w.heap.size + 1 + 1) 6 (fun _ => false)) := HY2.out.below hb3 HY2.out.lt)
    | (refine store6 (by rfl) _ _ (by rfl) (w.heap.size + 1 + 1) (fun _ => false) Y (by rfl) (by rfl) HY3.out ?_; intro w4 hb4 hz4 hk4 HY4
       have hc4 : Below w.heap.size w w4 := hc3.trans (hb4.mono (by omega))
       have HR4 : Hid (Arr w4 w.heap.size 6 (fun _ => false)) := HR3.out.otherK hz4 hk4 (by omega)
       have HX4 : Hid (Arr w4 (w.heap.size + 1) 6 X) := HX3.out.otherK hz4 hk4 (by omega)
       have HY4' : Hid (Arr w4 (w.heap.size + 1 + 1) 6 Y) := HY4
       clear hz4 hk4 HY4)
    | (refine load6 (by rfl) _ (by rfl) (w.heap.size + 1) (by rfl) X HX4.out ?_)
    | (refine load6 (by rfl) _ (by rfl) (w.heap.size + 1 + 1) (by rfl) Y HY4'.out ?_)
    | (go_at_call 83; refine (HS'.out _ (HG.out.below hc4 hgl)).mono ?_; rintro e w5 ⟨rfl, hb5⟩
       have HR5 : Hid (Arr w5 w.heap.size 6 (fun _ => false)) := HR4.out.below hb5 HR4.out.lt
       have hc5 : Below w.heap.size w w5 := Below.to hc4 hb5)
    | (refine store6 (by rfl) _ _ (by rfl) w.heap.size (fun _ => false) Z (by rfl) (by rfl) HR5.out ?_; intro w6 hb6 hz6 hk6 HR6))
  exact bodyPost_ret (result6 Try.results58 _ _ w.heap.size _ rfl HR6) rfl ⟨rfl, hc5.trans hb6⟩

end Go.Proofs.Ytkjnhhbibaimfaa
