import Derived.Test.YtkjnhhbibaimfaaZe
import Derived.Test.YtkjnhhbibaimfaaYi
namespace Go.Proofs.Ytkjnhhbibaimfaa
open Go.RowKit Fw
open Go.Deep (BT)
set_option linter.unusedVariables false

/-- block tb is a tree of nodes, which lie in block g -/
structure Tn (w : World) (tb g cap : Nat) (ns : List Nd) : Prop where
  lt : tb < w.heap.size
  glt : g < w.heap.size
  c2 : w.cell? ⟨tb, 2, none⟩ = some (.slice (some ⟨g, 0, none⟩) ns.length cap)
  cs : ∀ i x, ns[i]? = some x → ∀ j u, (five x)[j]? = some u → w.cell? ⟨g, i * 5 + j, none⟩ = some u

theorem Tn.below {w w' : World} {tb g cap : Nat} {ns : List Nd} (h : Tn w tb g cap ns) (hb : Below w.heap.size w w') : Tn w' tb g cap ns :=
  ⟨Nat.lt_of_lt_of_le h.lt hb.size, Nat.lt_of_lt_of_le h.glt hb.size, (hb.cell (p := ⟨tb, 2, none⟩) h.lt).trans h.c2, fun i x hx j u hu => (hb.cell (p := ⟨g, i * 5 + j, none⟩) h.glt).trans (h.cs i x hx j u hu)⟩

/-- what the program's pushed is to tell of a node -/
def PuAt (t : Fm) : Prop := ∀ (i tb g cap : Nat) (ns : List Nd) (neg : Bool) (w : World), Tn w tb g cap ns → Rep ns t i → (txt t).length ≤ 60 →
  Calls Try.prog 33 #[.pointer (some ⟨tb, 0, none⟩), .int .i64 (i : Int), .bool neg] w fun e w' => e = .returned (.string (bs (push t neg))) ∧ Below w.heap.size w w'

/-- the answer of a call of a part, from any world behind this one -/
def Gives (w : World) (tb li : Nat) (neg : Bool) (L : ByteArray) : Prop := ∀ w', Below w.heap.size w w' →
  Calls Try.prog 33 #[.pointer (some ⟨tb, 0, none⟩), .int .i64 (li : Int), .bool neg] w' fun e w'' => e = .returned (.string L) ∧ Below w'.heap.size w' w''

set_option maxRecDepth 100000 in
set_option maxHeartbeats 1000000 in
theorem two_core (tb sg wy li ri k : Nat) (neg : Bool) (L R T S1 S2 : ByteArray) (w : World) (hsg : isSg sg) (HL : Hid (Gives w tb li neg L)) (HR : Hid (Gives w tb ri neg R)) (HT : Hid (T = bs [b8 (tn neg sg)]))
    (s1 : ∀ w : World, (Op.stringOp .add L T).run Try.prog w = .ok (.string S1) w) (s2 : ∀ w : World, (Op.stringOp .add S1 R).run Try.prog w = .ok (.string S2) w) :
    Calls Try.prog 51 #[.pointer (some ⟨tb, 0, none⟩), .agg #[.int .u8 (sg : Int), .int .u8 (wy : Int), .int .i64 (li : Int), .int .i64 (ri : Int), .int .i64 (k : Int)], .bool neg] w fun e w' => e = .returned (.string S2) ∧ Below w.heap.size w w' := by
  have HSG : Hid (isSg sg) := hsg
  clear hsg
  go_enter Try.func51, Try.ntmps51
  go_wp2_with fail
  refine (HL.out _ ((Below.refl _ _).alloc (Nat.le_refl _) _)).mono ?_
  rintro e w1 ⟨rfl, hb1⟩
  have hz1 := hb1.size
  have HB1 : Hid (Below w.heap.size w w1) := ((Below.refl _ _).alloc (Nat.le_refl _) _).trans (hb1.mono (by simp))
  have c3 : w1.cell? ⟨w.heap.size, 3, none⟩ = some (.int .i64 (ri : Int)) := by rw [hb1.cell (p := ⟨w.heap.size, 3, none⟩) (by simp)]; simp
  have c0 : w1.cell? ⟨w.heap.size, 0, none⟩ = some (.int .u8 (sg : Int)) := by rw [hb1.cell (p := ⟨w.heap.size, 0, none⟩) (by simp)]; simp
  have hlt : w.heap.size < w1.heap.size := by simp at hz1; omega
  clear hb1 hz1
  go_wp2_with fail
  refine (HR.out _ HB1.out).mono ?_
  rintro e w2 ⟨rfl, hb2⟩
  have HB2 : Hid (Below w.heap.size w w2) := HB1.out.trans (hb2.mono HB1.out.size)
  have d0 : w2.cell? ⟨w.heap.size, 0, none⟩ = some (.int .u8 (sg : Int)) := by rw [hb2.cell (p := ⟨w.heap.size, 0, none⟩) hlt]; exact c0
  clear hb2 c0 c3
  go_wp2_with fail
  refine (pushedSign_any sg neg (.inl HSG.out) _).mono ?_
  rintro e w3 ⟨rfl, rfl⟩
  rw [← HT.out]
  go_wp2_with fail
  go_ret
  exact ⟨rfl, HB2.out⟩

/-- a node's cells, as pushed reads them -/
structure At5 (w : World) (tb g cap n i sg wy li ri k : Nat) : Prop where
  lt : tb < w.heap.size
  glt : g < w.heap.size
  hi : i < n
  c2 : w.cell? ⟨tb, 2, none⟩ = some (.slice (some ⟨g, 0, none⟩) n cap)
  n0 : w.cell? ⟨g, i * 5, none⟩ = some (.int .u8 (sg : Int))
  n1 : w.cell? ⟨g, i * 5 + 1, none⟩ = some (.int .u8 (wy : Int))
  n2 : w.cell? ⟨g, i * 5 + 2, none⟩ = some (.int .i64 (li : Int))
  n3 : w.cell? ⟨g, i * 5 + 3, none⟩ = some (.int .i64 (ri : Int))
  n4 : w.cell? ⟨g, i * 5 + 4, none⟩ = some (.int .i64 (k : Int))

theorem Tn.at {w : World} {tb g cap : Nat} {ns : List Nd} (h : Tn w tb g cap ns) {i sg wy li ri k : Nat} (hx : ns[i]? = some (sg, wy, li, ri, k)) : At5 w tb g cap ns.length i sg wy li ri k :=
  ⟨h.lt, h.glt, (List.getElem?_eq_some_iff.1 hx).1, h.c2, h.cs i _ hx 0 _ rfl, h.cs i _ hx 1 _ rfl, h.cs i _ hx 2 _ rfl, h.cs i _ hx 3 _ rfl, h.cs i _ hx 4 _ rfl⟩

theorem Gives.later {w W : World} {tb li : Nat} {neg : Bool} {L : ByteArray} (h : Gives w tb li neg L) (hb : Below w.heap.size w W) : Gives W tb li neg L :=
  fun w' hw => h w' (hb.trans (hw.mono hb.size))

theorem pushedSign_0 (neg : Bool) (w : World) : Calls Try.prog 50 #[.int .u8 0, .bool neg] w fun e w' => e = .returned (.string (bs [b8 (tn neg 0)])) ∧ w' = w := pushedSign_any 0 neg (.inr rfl) w

set_option maxRecDepth 100000 in
set_option maxHeartbeats 1000000 in
theorem pu_not (tb g cap n i li ri k : Nat) (neg : Bool) (L : ByteArray) (w : World) (HA : Hid (At5 w tb g cap n i 33 0 li ri k)) (HL : Hid (Gives w tb li (!neg) L)) :
    Calls Try.prog 33 #[.pointer (some ⟨tb, 0, none⟩), .int .i64 (i : Int), .bool neg] w fun e w' => e = .returned (.string L) ∧ Below w.heap.size w w' := by
  obtain ⟨lt, glt, hi, c2, n0, n1, n2, n3, n4⟩ := HA.out
  have hi2 : (i : Int) < (n : Int) := by omega
  go_enter Try.func33, Try.ntmps33
  go_wp2_with fail
  refine (pushedSign_0 neg _).mono ?_
  rintro e w1 ⟨rfl, rfl⟩
  go_wp2_with fail
  refine (HL.out _ ((Below.refl _ _).alloc (Nat.le_refl _) _)).mono ?_
  rintro e w1 ⟨rfl, hb1⟩
  go_wp2_with fail
  go_ret
  exact ⟨rfl, ((Below.refl _ _).alloc (Nat.le_refl _) _).trans (hb1.mono (by simp))⟩

set_option maxRecDepth 100000 in
set_option maxHeartbeats 1000000 in
theorem pu_x (tb g cap n i wy li ri k : Nat) (neg : Bool) (L T S1 S2 : ByteArray) (w : World) (hwy : isSg wy) (HA : Hid (At5 w tb g cap n i 88 wy li ri k)) (HL : Hid (Gives w tb li neg L)) (HT : Hid (T = bs [b8 (tn neg wy)]))
    (s1 : ∀ w : World, (Op.stringOp .add T ⟨#[88]⟩).run Try.prog w = .ok (.string S1) w) (s2 : ∀ w : World, (Op.stringOp .add S1 L).run Try.prog w = .ok (.string S2) w) :
    Calls Try.prog 33 #[.pointer (some ⟨tb, 0, none⟩), .int .i64 (i : Int), .bool neg] w fun e w' => e = .returned (.string S2) ∧ Below w.heap.size w w' := by
  obtain ⟨lt, glt, hi, c2, n0, n1, n2, n3, n4⟩ := HA.out
  have hi2 : (i : Int) < (n : Int) := by omega
  have HS : Hid (isSg wy) := hwy
  clear hwy
  go_enter Try.func33, Try.ntmps33
  go_wp2_with fail
  refine (pushedSign_any wy neg (.inl HS.out) _).mono ?_
  rintro e w1 ⟨rfl, rfl⟩
  rw [← HT.out]
  go_wp2_with fail
  refine (HL.out _ ((Below.refl _ _).alloc (Nat.le_refl _) _)).mono ?_
  rintro e w1 ⟨rfl, hb1⟩
  go_wp2_with fail
  go_ret
  exact ⟨rfl, ((Below.refl _ _).alloc (Nat.le_refl _) _).trans (hb1.mono (by simp))⟩

set_option maxRecDepth 100000 in
set_option maxHeartbeats 1000000 in
theorem pu_bin (tb g cap n i sg li ri k : Nat) (neg : Bool) (P S1 S2 : ByteArray) (w : World) (b33 : ((sg : Int) == 33) = false) (hq : ((sg : Int) == 38) = true ∨ (((sg : Int) == 38) = false ∧ ((sg : Int) == 43) = true)) (HA : Hid (At5 w tb g cap n i sg 0 li ri k))
    (HP : Hid (∀ W, Below w.heap.size w W → Calls Try.prog 51 #[.pointer (some ⟨tb, 0, none⟩), .agg #[.int .u8 (sg : Int), .int .u8 0, .int .i64 (li : Int), .int .i64 (ri : Int), .int .i64 (k : Int)], .bool neg] W fun e w' => e = .returned (.string P) ∧ Below W.heap.size W w'))
    (s1 : ∀ w : World, (Op.stringOp .add ⟨#[40]⟩ P).run Try.prog w = .ok (.string S1) w) (s2 : ∀ w : World, (Op.stringOp .add S1 ⟨#[41]⟩).run Try.prog w = .ok (.string S2) w) :
    Calls Try.prog 33 #[.pointer (some ⟨tb, 0, none⟩), .int .i64 (i : Int), .bool neg] w fun e w' => e = .returned (.string S2) ∧ Below w.heap.size w w' := by
  obtain ⟨lt, glt, hi, c2, n0, n1, n2, n3, n4⟩ := HA.out
  have hi2 : (i : Int) < (n : Int) := by omega
  rcases hq with hq | ⟨hq, hq2⟩
  all_goals
    go_enter Try.func33, Try.ntmps33
    go_wp2_with fail
    refine (pushedSign_0 neg _).mono ?_
    rintro e w1 ⟨rfl, rfl⟩
    go_wp2_with fail
    refine (HP.out _ ((Below.refl _ _).alloc (Nat.le_refl _) _)).mono ?_
    rintro e w1 ⟨rfl, hb1⟩
    go_wp2_with fail
    go_ret
    exact ⟨rfl, ((Below.refl _ _).alloc (Nat.le_refl _) _).trans (hb1.mono (by simp))⟩

set_option maxRecDepth 100000 in
set_option maxHeartbeats 1000000 in
theorem pu_way (tb g cap n i sg wy li ri k : Nat) (neg : Bool) (P T S0 S1 S2 : ByteArray) (w : World) (b33 : ((sg : Int) == 33) = false) (b38 : ((sg : Int) == 38) = false) (b43 : ((sg : Int) == 43) = false) (b88 : ((sg : Int) == 88) = false) (hq : ((sg : Int) == 85) = true ∨ (((sg : Int) == 85) = false ∧ ((sg : Int) == 82) = true)) (hwy : isSg wy) (HA : Hid (At5 w tb g cap n i sg wy li ri k))
    (HP : Hid (∀ W, Below w.heap.size w W → Calls Try.prog 51 #[.pointer (some ⟨tb, 0, none⟩), .agg #[.int .u8 (sg : Int), .int .u8 (wy : Int), .int .i64 (li : Int), .int .i64 (ri : Int), .int .i64 (k : Int)], .bool neg] W fun e w' => e = .returned (.string P) ∧ Below W.heap.size W w')) (HT : Hid (T = bs [b8 (tn neg wy)]))
    (s0 : ∀ w : World, (Op.stringOp .add T ⟨#[91]⟩).run Try.prog w = .ok (.string S0) w) (s1 : ∀ w : World, (Op.stringOp .add S0 P).run Try.prog w = .ok (.string S1) w) (s2 : ∀ w : World, (Op.stringOp .add S1 ⟨#[93]⟩).run Try.prog w = .ok (.string S2) w) :
    Calls Try.prog 33 #[.pointer (some ⟨tb, 0, none⟩), .int .i64 (i : Int), .bool neg] w fun e w' => e = .returned (.string S2) ∧ Below w.heap.size w w' := by
  obtain ⟨lt, glt, hi, c2, n0, n1, n2, n3, n4⟩ := HA.out
  have hi2 : (i : Int) < (n : Int) := by omega
  have HS : Hid (isSg wy) := hwy
  clear hwy
  rcases hq with hq | ⟨hq, hq2⟩
  all_goals
    go_enter Try.func33, Try.ntmps33
    go_wp2_with fail
    refine (pushedSign_any wy neg (.inl HS.out) _).mono ?_
    rintro e w1 ⟨rfl, rfl⟩
    rw [← HT.out]
    go_wp2_with fail
    refine (HP.out _ ((Below.refl _ _).alloc (Nat.le_refl _) _)).mono ?_
    rintro e w1 ⟨rfl, hb1⟩
    go_wp2_with fail
    go_ret
    exact ⟨rfl, ((Below.refl _ _).alloc (Nat.le_refl _) _).trans (hb1.mono (by simp))⟩

end Go.Proofs.Ytkjnhhbibaimfaa
