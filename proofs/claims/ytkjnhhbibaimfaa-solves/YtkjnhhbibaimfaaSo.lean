import Derived.Test.YtkjnhhbibaimfaaSn
namespace Go.Proofs.Ytkjnhhbibaimfaa
open Go.RowKit Fw
open Go.Deep (BT)
set_option linter.unusedVariables false

def OutIs (gb : Nat) (G : Gph) (mk : Nat → ByteArray) (X Y : Nat → Bool) : Prop := ∀ w, Hid (Gm w gb G mk) → Calls Try.prog 79 #[.pointer (some ⟨gb, 0, none⟩), .agg (six X)] w fun e w' => e = .returned (.agg (six Y)) ∧ Below w.heap.size w w'
def BothIs (X Y Z : Nat → Bool) : Prop := ∀ w, Calls Try.prog 81 #[.agg (six X), .agg (six Y)] w fun e w' => e = .returned (.agg (six Z)) ∧ Below w.heap.size w w'

set_option maxRecDepth 100000 in
set_option maxHeartbeats 1000000 in
theorem holds_or_core (NX NY NB NN : Nat → Bool) (gb : Nat) (G : Gph) (mk : Nat → ByteArray) (f s A B : ByteArray) (X Y : Nat → Bool) (hp : 0 < s.size) (h0 : s[0].toNat = 40) (HQ : PartsIs s A B 1 43) (HX : HoldIs gb G mk f A X) (HY : HoldIs gb G mk f B Y) (HNX : Hid (OutIs gb G mk X NX)) (HNY : Hid (OutIs gb G mk Y NY)) (HNB : Hid (BothIs NX NY NB)) (HNN : Hid (OutIs gb G mk NB NN)) :
    HoldIs gb G mk f s NN := by
  intro w HG
  have hgl := HG.out.lt
  have HR1 : Hid _ := arr_zero w 111
  have HQ' : Hid (PartsIs s A B 1 43) := HQ
  have HX' : Hid (HoldIs gb G mk f A X) := HX
  have HY' : Hid (HoldIs gb G mk f B Y) := HY
  clear HQ HX HY
  go_enter Try.func58, Try.ntmps58
  go_wp2_with (first
    | (go_at_call 80; refine (HQ'.out _).mono ?_; rintro e w0 ⟨rfl, n, rfl⟩
       have hc0 : Below w.heap.size w _ := below_drewN (below1 w (.cells #[.bool false, .bool false, .bool false, .bool false, .bool false, .bool false] 111)) n
       have HR0 : Hid (Arr _ w.heap.size 6 (fun _ => false)) := HR1.out.drewN n)
    | (go_at_call_of 58 A; refine (HX'.out _ (HG.out.below hc0 hgl)).mono ?_; rintro e w1 ⟨rfl, hb1⟩
       have hc1 : Below w.heap.size w w1 := Below.to hc0 hb1
       have HR1' : Hid (Arr w1 w.heap.size 6 (fun _ => false)) := HR0.out.below hb1 HR0.out.lt)
    | (refine store6 (by rfl) _ _ (by rfl) w1.heap.size (fun _ => false) X (by rfl) (by rfl) (arr_zero w1 111) ?_; intro w2 hb2 hz2 hk2 HX2
       have hb12 : Below w1.heap.size w1 w2 := (below1 w1 _).trans hb2
       have hc2 : Below w.heap.size w w2 := Below.to hc1 hb12
       have HR2 : Hid (Arr w2 w.heap.size 6 (fun _ => false)) := HR1'.out.below hb12 HR1'.out.lt
       have HX2' : Hid (Arr w2 w1.heap.size 6 X) := HX2
       clear hz2 hk2 HX2)
    | (go_at_call_of 58 B; refine (HY'.out _ (HG.out.below hc2 hgl)).mono ?_; rintro e w3 ⟨rfl, hb3⟩
       have hc3 : Below w.heap.size w w3 := Below.to hc2 hb3
       have HR3 : Hid (Arr w3 w.heap.size 6 (fun _ => false)) := HR2.out.below hb3 HR2.out.lt
       have HX3 : Hid (Arr w3 w1.heap.size 6 X) := HX2'.out.below hb3 HX2'.out.lt)
    | (refine store6 (by rfl) _ _ (by rfl) w3.heap.size (fun _ => false) Y (by rfl) (by rfl) (arr_zero w3 111) ?_; intro w4 hb4 hz4 hk4 HY4
       have hb34 : Below w3.heap.size w3 w4 := (below1 w3 _).trans hb4
       have hc4 : Below w.heap.size w w4 := Below.to hc3 hb34
       have HR4 : Hid (Arr w4 w.heap.size 6 (fun _ => false)) := HR3.out.below hb34 HR3.out.lt
       have HX4 : Hid (Arr w4 w1.heap.size 6 X) := HX3.out.below hb34 HX3.out.lt
       have HY4' : Hid (Arr w4 w3.heap.size 6 Y) := HY4
       clear hz4 hk4 HY4))
  have q1 : w.heap.size < w1.heap.size := HR1'.out.lt
  have q3 : w.heap.size < w3.heap.size := HR3.out.lt
  have HK : Hid (∀ w', Below w4.heap.size w4 w' → (fun w' => (w'.cell? ⟨w1.heap.size, 0, none⟩ = some (.bool (X 0)) ∧ w'.cell? ⟨w1.heap.size, 1, none⟩ = some (.bool (X 1)) ∧ w'.cell? ⟨w1.heap.size, 2, none⟩ = some (.bool (X 2)) ∧ w'.cell? ⟨w1.heap.size, 3, none⟩ = some (.bool (X 3)) ∧ w'.cell? ⟨w1.heap.size, 4, none⟩ = some (.bool (X 4)) ∧ w'.cell? ⟨w1.heap.size, 5, none⟩ = some (.bool (X 5))) ∧ (w'.cell? ⟨w3.heap.size, 0, none⟩ = some (.bool (Y 0)) ∧ w'.cell? ⟨w3.heap.size, 1, none⟩ = some (.bool (Y 1)) ∧ w'.cell? ⟨w3.heap.size, 2, none⟩ = some (.bool (Y 2)) ∧ w'.cell? ⟨w3.heap.size, 3, none⟩ = some (.bool (Y 3)) ∧ w'.cell? ⟨w3.heap.size, 4, none⟩ = some (.bool (Y 4)) ∧ w'.cell? ⟨w3.heap.size, 5, none⟩ = some (.bool (Y 5)))) w') := fun w' h => ⟨cells1 (HX4.out.below h HX4.out.lt), cells1 (HY4'.out.below h HY4'.out.lt)⟩
  go_region_held3 (fun w' => (w'.cell? ⟨w1.heap.size, 0, none⟩ = some (.bool (X 0)) ∧ w'.cell? ⟨w1.heap.size, 1, none⟩ = some (.bool (X 1)) ∧ w'.cell? ⟨w1.heap.size, 2, none⟩ = some (.bool (X 2)) ∧ w'.cell? ⟨w1.heap.size, 3, none⟩ = some (.bool (X 3)) ∧ w'.cell? ⟨w1.heap.size, 4, none⟩ = some (.bool (X 4)) ∧ w'.cell? ⟨w1.heap.size, 5, none⟩ = some (.bool (X 5))) ∧ (w'.cell? ⟨w3.heap.size, 0, none⟩ = some (.bool (Y 0)) ∧ w'.cell? ⟨w3.heap.size, 1, none⟩ = some (.bool (Y 1)) ∧ w'.cell? ⟨w3.heap.size, 2, none⟩ = some (.bool (Y 2)) ∧ w'.cell? ⟨w3.heap.size, 3, none⟩ = some (.bool (Y 3)) ∧ w'.cell? ⟨w3.heap.size, 4, none⟩ = some (.bool (Y 4)) ∧ w'.cell? ⟨w3.heap.size, 5, none⟩ = some (.bool (Y 5)))) (first
      | exact HK.out _ (Below.refl _ _).drew
      | exact HK.out _ hd5
      | exact HK.out _ hd6
      | exact HK.out _ hd7
      | exact HK.out _ hd8
      | exact ⟨cells1 ((HX4.out.below hd8 HX4.out.lt).otherK hz9 hk9 (by omega)), cells1 ((HY4'.out.below hd8 HY4'.out.lt).otherK hz9 hk9 (by omega))⟩) (first
    | (go_at_call 81; refine (HNB.out _).mono ?_; rintro e w7 ⟨rfl, hb7⟩
       have hd7 : Below w4.heap.size w4 w7 := Below.to hd6 hb7)
    | (go_at_call_of 79 (X 0); refine (HNX.out _ (HG.out.below (hc4.drew) hgl)).mono ?_; rintro e w5 ⟨rfl, hb5⟩
       have hd5 : Below w4.heap.size w4 w5 := Below.dr hb5)
    | (go_at_call_of 79 (Y 0); refine (HNY.out _ (HG.out.below (Below.to hc4 hd5) hgl)).mono ?_; rintro e w6 ⟨rfl, hb6⟩
       have hd6 : Below w4.heap.size w4 w6 := Below.to hd5 hb6)
    | (go_at_call 79; refine (HNN.out _ (HG.out.below (Below.to hc4 hd7) hgl)).mono ?_; rintro e w8 ⟨rfl, hb8⟩
       have hd8 : Below w4.heap.size w4 w8 := Below.to hd7 hb8
       have HR8 : Hid (Arr w8 w.heap.size 6 (fun _ => false)) := HR4.out.below hd8 HR4.out.lt
       obtain ⟨w9, hrun9, hb9, hz9, hk9, HR9⟩ := stores6 HR8.out NN))
  all_goals
    go_wp2_with fail
    exact bodyPost_ret (result6 Try.results58 _ _ w.heap.size _ rfl HR9) rfl ⟨rfl, (Below.to hc4 hd8).trans hb9⟩

theorem holds_or (gb : Nat) (G : Gph) (mk : Nat → ByteArray) (f s A B : ByteArray) (X Y : Nat → Bool) (hp : 0 < s.size) (h0 : s[0].toNat = 40) (HQ : PartsIs s A B 1 43) (HX : HoldIs gb G mk f A X) (HY : HoldIs gb G mk f B Y) :
    HoldIs gb G mk f s (upto G.n fun j => !((upto G.n fun j => !(X j)) j && (upto G.n fun j => !(Y j)) j)) :=
  holds_or_core _ _ _ _ gb G mk f s A B X Y hp h0 HQ HX HY (fun w h => without_is gb G mk X w h) (fun w h => without_is gb G mk Y w h) (fun w => both_is _ _ w) (fun w h => without_is gb G mk _ w h)

end Go.Proofs.Ytkjnhhbibaimfaa
