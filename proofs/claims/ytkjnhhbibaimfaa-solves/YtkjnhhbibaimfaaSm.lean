import Derived.Test.YtkjnhhbibaimfaaSl
namespace Go.Proofs.Ytkjnhhbibaimfaa
open Go.RowKit Fw
open Go.Deep (BT)
set_option linter.unusedVariables false

/-- what Holds is to tell of a text: a set -/
def HoldIs (gb : Nat) (G : Gph) (mk : Nat → ByteArray) (f s : ByteArray) (X : Nat → Bool) : Prop := ∀ w, Hid (Gm w gb G mk) →
  Calls Try.prog 58 #[.pointer (some ⟨gb, 0, none⟩), .string s, .string f] w fun e w' => e = .returned (.agg (six X)) ∧ Below w.heap.size w w'

theorem below1 (w : World) (o : Obj) : Below w.heap.size w (w.alloc o) := (Below.refl _ _).alloc (Nat.le_refl _) _

set_option maxRecDepth 100000 in
set_option maxHeartbeats 1000000 in
theorem holds_atom (gb : Nat) (G : Gph) (mk : Nat → ByteArray) (f s : ByteArray) (c : Nat) (hp : 0 < s.size) (h0 : s[0].toNat = c)
    (b1 : ((c : Int) == 33) = false) (b2 : ((c : Int) == 40) = false) (b3 : ((c : Int) != 69) = true) (b4 : ((c : Int) != 65) = true) :
    HoldIs gb G mk f s (upto G.n fun j => (c == 84) || G.m j c) := by
  intro w HG
  have hgl := HG.out.lt
  have HG1 : Hid (Gm (w.alloc (.cells #[.bool false, .bool false, .bool false, .bool false, .bool false, .bool false] 111)) gb G mk) := HG.out.below (below1 w _) hgl
  have HR1 := arr_zero w 111
  have HP := plain_is gb c G mk _ HG1
  go_enter Try.func58, Try.ntmps58
  go_wp2_with (first
    | (go_at_call 82; refine HP.mono ?_; rintro e w1 ⟨rfl, hb1⟩)
    | (refine store6 (by rfl) _ _ (by rfl) w.heap.size (fun _ => false) _ (by rfl) (by rfl) (HR1.below hb1 HR1.lt) ?_; intro w5 hb5 hz5 hk5 HR5))
  exact bodyPost_ret (result6 Try.results58 _ _ w.heap.size _ rfl HR5) rfl ⟨rfl, (Below.to (below1 w _) hb1).trans hb5⟩

set_option maxRecDepth 100000 in
set_option maxHeartbeats 1000000 in
theorem holds_not (gb : Nat) (G : Gph) (mk : Nat → ByteArray) (f s A : ByteArray) (X : Nat → Bool) (hp : 0 < s.size) (hp1 : 1 ≤ s.size) (h0 : s[0].toNat = 33) (hA : s.extract 1 s.size = A) (HX : HoldIs gb G mk f A X) :
    HoldIs gb G mk f s (upto G.n fun j => !(X j)) := by
  intro w HG
  have hgl := HG.out.lt
  have HG1 : Hid (Gm (w.alloc (.cells #[.bool false, .bool false, .bool false, .bool false, .bool false, .bool false] 111)) gb G mk) := HG.out.below (below1 w _) hgl
  have HR1 : Hid _ := arr_zero w 111
  have HC := HX _ HG1
  have HW := fun w' (h : Hid (Gm w' gb G mk)) => without_is gb G mk X w' h
  clear HX
  go_enter Try.func58, Try.ntmps58
  go_wp2_with (first
    | (go_at_call 58; refine HC.mono ?_; rintro e w1 ⟨rfl, hb1⟩)
    | (go_at_call 79; refine (HW _ (HG1.out.below hb1 HG1.out.lt)).mono ?_; rintro e w2 ⟨rfl, hb2⟩)
    | (refine store6 (by rfl) _ _ (by rfl) w.heap.size (fun _ => false) _ (by rfl) (by rfl) ((HR1.out.below hb1 HR1.out.lt).below hb2 (HR1.out.below hb1 HR1.out.lt).lt) ?_; intro w5 hb5 hz5 hk5 HR5))
  exact bodyPost_ret (result6 Try.results58 _ _ w.heap.size _ rfl HR5) rfl ⟨rfl, (Below.to (Below.to (below1 w _) hb1) hb2).trans hb5⟩

end Go.Proofs.Ytkjnhhbibaimfaa
