import Derived.Test.YtkjnhhbibaimfaaSm
namespace Go.Proofs.Ytkjnhhbibaimfaa
open Go.RowKit Fw
open Go.Deep (BT)
set_option linter.unusedVariables false

/-- what parts is to tell of a text -/
def PartsIs (s A B : ByteArray) (p c : Nat) : Prop := ∀ w, Calls Try.prog 80 #[.string s, .int .i64 (p : Int)] w fun e w' => e = .returned (.tuple #[.string A, .string B, .int .u8 (c : Int)]) ∧ ∃ n, w' = w.drewN n

set_option maxRecDepth 100000 in
set_option maxHeartbeats 1000000 in
theorem holds_and (gb : Nat) (G : Gph) (mk : Nat → ByteArray) (f s A B : ByteArray) (X Y : Nat → Bool) (hp : 0 < s.size) (h0 : s[0].toNat = 40) (HQ : PartsIs s A B 1 38) (HX : HoldIs gb G mk f A X) (HY : HoldIs gb G mk f B Y) :
    HoldIs gb G mk f s (fun j => X j && Y j) := by
  intro w HG
  have hgl := HG.out.lt
  have HR1 : Hid _ := arr_zero w 111
  have HQ' : Hid (PartsIs s A B 1 38) := HQ
  have HX' : Hid (HoldIs gb G mk f A X) := HX
  have HY' : Hid (HoldIs gb G mk f B Y) := HY
  clear HQ HX HY
  go_enter Try.func58, Try.ntmps58
  go_wp2_with (first
    | (go_at_call 80; refine (HQ'.out _).mono ?_; rintro e w0 ⟨rfl, n, rfl⟩
       have hc0 : Below w.heap.size w _ := below_drewN (below1 w (.cells #[.bool false, .bool false, .bool false, .bool false, .bool false, .bool false] 111)) n
       have HR0 : Hid (Arr _ w.heap.size 6 (fun _ => false)) := HR1.out.drewN n)
    | (go_at_call_of 58 A; refine (HX'.out _ (HG.out.below hc0 hgl)).mono ?_; rintro e w1 ⟨rfl, hb1⟩
       have hc1 : Below w.heap.size w w1 := Below.to hc0 hb1
       have HR1' : Hid (Arr w1 w.heap.size 6 (fun _ => false)) := HR0.out.below hb1 HR0.out.lt)
    | (refine store6 (by rfl) _ _ (by rfl) w1.heap.size (fun _ => false) X (by rfl) (by rfl) (arr_zero w1 111) ?_; intro w2 hb2 hz2 hk2 HX2
       have hb12 : Below w1.heap.size w1 w2 := (below1 w1 _).trans hb2
       have hc2 : Below w.heap.size w w2 := Below.to hc1 hb12
       have HR2 : Hid (Arr w2 w.heap.size 6 (fun _ => false)) := HR1'.out.below hb12 HR1'.out.lt
       have HX2' : Hid (Arr w2 w1.heap.size 6 X) := HX2
       clear hz2 hk2 HX2)
    | (go_at_call_of 58 B; refine (HY'.out _ (HG.out.below hc2 hgl)).mono ?_; rintro e w3 ⟨rfl, hb3⟩
       have hc3 : Below w.heap.size w w3 := Below.to hc2 hb3
       have HR3 : Hid (Arr w3 w.heap.size 6 (fun _ => false)) := HR2.out.below hb3 HR2.out.lt
       have HX3 : Hid (Arr w3 w1.heap.size 6 X) := HX2'.out.below hb3 HX2'.out.lt)
    | (refine store6 (by rfl) _ _ (by rfl) w3.heap.size (fun _ => false) Y (by rfl) (by rfl) (arr_zero w3 111) ?_; intro w4 hb4 hz4 hk4 HY4
       have hb34 : Below w3.heap.size w3 w4 := (below1 w3 _).trans hb4
       have hc4 : Below w.heap.size w w4 := Below.to hc3 hb34
       have HR4 : Hid (Arr w4 w.heap.size 6 (fun _ => false)) := HR3.out.below hb34 HR3.out.lt
       have HX4 : Hid (Arr w4 w1.heap.size 6 X) := HX3.out.below hb34 HX3.out.lt
       have HY4' : Hid (Arr w4 w3.heap.size 6 Y) := HY4
       clear hz4 hk4 HY4)
    | (refine load6 (by rfl) _ (by rfl) w1.heap.size (by rfl) X HX4.out ?_)
    | (refine load6 (by rfl) _ (by rfl) w3.heap.size (by rfl) Y HY4'.out ?_)
    | (go_at_call 81; refine (both_is X Y _).mono ?_; rintro e w5 ⟨rfl, hb5⟩
       have HR5 : Hid (Arr w5 w.heap.size 6 (fun _ => false)) := HR4.out.below hb5 HR4.out.lt
       have hc5 : Below w.heap.size w w5 := Below.to hc4 hb5)
    | (refine store6 (by rfl) _ _ (by rfl) w.heap.size (fun _ => false) _ (by rfl) (by rfl) HR5.out ?_; intro w6 hb6 hz6 hk6 HR6))
  exact bodyPost_ret (result6 Try.results58 _ _ w.heap.size _ rfl HR6) rfl ⟨rfl, hc5.trans hb6⟩

end Go.Proofs.Ytkjnhhbibaimfaa
