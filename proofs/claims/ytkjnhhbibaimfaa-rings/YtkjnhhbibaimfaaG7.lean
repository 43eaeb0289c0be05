import Derived.Test.YtkjnhhbibaimfaaG6
import Derived.Test.YtkjnhhbibaimfaaG5
import Derived.Test.YtkjnhhbibaimfaaG3
namespace Go.Proofs.Ytkjnhhbibaimfaa
open Go.RowKit Fw
open Go.Deep (BT)
set_option linter.unusedVariables false

/-- block tb is a tree of nodes, which lie in block g -/
structure Tn (w : World) (tb g cap : Nat) (ns : List Nd) : Prop where
  lt : tb < w.heap.size
  glt : g < w.heap.size
  c2 : w.cell? ⟨tb, 2, none⟩ = some (.slice (some ⟨g, 0, none⟩) ns.length cap)
  cs : ∀ i x, ns[i]? = some x → ∀ j u, (five x)[j]? = some u → w.cell? ⟨g, i * 5 + j, none⟩ = some u

theorem Tn.below {w w' : World} {tb g cap : Nat} {ns : List Nd} (h : Tn w tb g cap ns) (hb : Below w.heap.size w w') : Tn w' tb g cap ns :=
  ⟨Nat.lt_of_lt_of_le h.lt hb.size, Nat.lt_of_lt_of_le h.glt hb.size, (hb.cell (p := ⟨tb, 2, none⟩) h.lt).trans h.c2, fun i x hx j u hu => (hb.cell (p := ⟨g, i * 5 + j, none⟩) h.glt).trans (h.cs i x hx j u hu)⟩

/-- what the program's pushed is to tell of a node -/
def PuAt (t : Fm) : Prop := ∀ (i tb g cap : Nat) (ns : List Nd) (neg : Bool) (w : World), Tn w tb g cap ns → Rep ns t i → (txt t).length ≤ 60 →
  Calls Try.prog 33 #[.pointer (some ⟨tb, 0, none⟩), .int .i64 (i : Int), .bool neg] w fun e w' => e = .returned (.string (bs (push t neg))) ∧ Below w.heap.size w w'

/-- the answer of a call of a part, from any world behind this one -/
def Gives (w : World) (tb li : Nat) (neg : Bool) (L : ByteArray) : Prop := ∀ w', Below w.heap.size w w' →
  Calls Try.prog 33 #[.pointer (some ⟨tb, 0, none⟩), .int .i64 (li : Int), .bool neg] w' fun e w'' => e = .returned (.string L) ∧ Below w'.heap.size w' w''

set_option maxRecDepth 100000 in
set_option maxHeartbeats 1000000 in
theorem two_core (tb sg wy li ri k : Nat) (neg : Bool) (L R T S1 S2 : ByteArray) (w : World) (hsg : isSg sg) (HL : Hid (Gives w tb li neg L)) (HR : Hid (Gives w tb ri neg R)) (HT : Hid (T = bs [b8 (tn neg sg)]))
    (s1 : ∀ w : World, (Op.stringOp .add L T).run Try.prog w = .ok (.string S1) w) (s2 : ∀ w : World, (Op.stringOp .add S1 R).run Try.prog w = .ok (.string S2) w) :
    Calls Try.prog 51 #[.pointer (some ⟨tb, 0, none⟩), .agg #[.int .u8 (sg : Int), .int .u8 (wy : Int), .int .i64 (li : Int), .int .i64 (ri : Int), .int .i64 (k : Int)], .bool neg] w fun e w' => e = .returned (.string S2) ∧ Below w.heap.size w w' := by
  have HSG : Hid (isSg sg) := hsg
  clear hsg
  go_enter Try.func51, Try.ntmps51
  go_wp2_with fail
  refine (HL.out _ ((Below.refl _ _).alloc (Nat.le_refl _) _)).mono ?_
  rintro e w1 ⟨rfl, hb1⟩
  have hz1 := hb1.size
  have HB1 : Hid (Below w.heap.size w w1) := ((Below.refl _ _).alloc (Nat.le_refl _) _).trans (hb1.mono (by simp))
  have c3 : w1.cell? ⟨w.heap.size, 3, none⟩ = some (.int .i64 (ri : Int)) := by rw [hb1.cell (p := ⟨w.heap.size, 3, none⟩) (by simp)]; simp
  have c0 : w1.cell? ⟨w.heap.size, 0, none⟩ = some (.int .u8 (sg : Int)) := by rw [hb1.cell (p := ⟨w.heap.size, 0, none⟩) (by simp)]; simp
  have hlt : w.heap.size < w1.heap.size := by simp at hz1; omega
  clear hb1 hz1
  go_wp2_with fail
  refine (HR.out _ HB1.out).mono ?_
  rintro e w2 ⟨rfl, hb2⟩
  have HB2 : Hid (Below w.heap.size w w2) := HB1.out.trans (hb2.mono HB1.out.size)
  have d0 : w2.cell? ⟨w.heap.size, 0, none⟩ = some (.int .u8 (sg : Int)) := by rw [hb2.cell (p := ⟨w.heap.size, 0, none⟩) hlt]; exact c0
  clear hb2 c0 c3
  go_wp2_with fail
  refine (pushedSign_any sg neg (.inl HSG.out) _).mono ?_
  rintro e w3 ⟨rfl, rfl⟩
  rw [← HT.out]
  go_wp2_with fail
  go_ret
  exact ⟨rfl, HB2.out⟩

/-- a node's cells, as pushed reads them -/
structure At5 (w : World) (tb g cap n i sg wy li ri k : Nat) : Prop where
  lt : tb < w.heap.size
  glt : g < w.heap.size
  hi : i < n
  c2 : w.cell? ⟨tb, 2, none⟩ = some (.slice (some ⟨g, 0, none⟩) n cap)
  n0 : w.cell? ⟨g, i * 5, none⟩ = some (.int .u8 (sg : Int))
  n1 : w.cell? ⟨g, i * 5 + 1, none⟩ = some (.int .u8 (wy : Int))
  n2 : w.cell? ⟨g, i * 5 + 2, none⟩ = some (.int .i64 (li : Int))
  n3 : w.cell? ⟨g, i * 5 + 3, none⟩ = some (.int .i64 (ri : Int))
  n4 : w.cell? ⟨g, i * 5 + 4, none⟩ = some (.int .i64 (k : Int))

theorem Tn.at {w : World} {tb g cap : Nat} {ns : List Nd} (h : Tn w tb g cap ns) {i sg wy li ri k : Nat} (hx : ns[i]? = some (sg, wy, li, ri, k)) : At5 w tb g cap ns.length i sg wy li ri k :=
  ⟨h.lt, h.glt, (List.getElem?_eq_some_iff.1 hx).1, h.c2, h.cs i _ hx 0 _ rfl, h.cs i _ hx 1 _ rfl, h.cs i _ hx 2 _ rfl, h.cs i _ hx 3 _ rfl, h.cs i _ hx 4 _ rfl⟩

theorem Gives.later {w W : World} {tb li : Nat} {neg : Bool} {L : ByteArray} (h : Gives w tb li neg L) (hb : Below w.heap.size w W) : Gives W tb li neg L :=
  fun w' hw => h w' (hb.trans (hw.mono hb.size))

theorem pushedSign_0 (neg : Bool) (w : World) : Calls Try.prog 50 #[.int .u8 0, .bool neg] w fun e w' => e = .returned (.string (bs [b8 (tn neg 0)])) ∧ w' = w := pushedSign_any 0 neg (.inr rfl) w

set_option maxRecDepth 100000 in
set_option maxHeartbeats 1000000 in
theorem pu_not (tb g cap n i li ri k : Nat) (neg : Bool) (L : ByteArray) (w : World) (HA : Hid (At5 w tb g cap n i 33 0 li ri k)) (HL : Hid (Gives w tb li (!neg) L)) :
    Calls Try.prog 33 #[.pointer (some ⟨tb, 0, none⟩), .int .i64 (i : Int), .bool neg] w fun e w' => e = .returned (.string L) ∧ Below w.heap.size w w' := by
  obtain ⟨lt, glt, hi, c2, n0, n1, n2, n3, n4⟩ := HA.out
  have hi2 : (i : Int) < (n : Int) := by omega
  go_enter Try.func33, Try.ntmps33
  go_wp2_with fail
  refine (pushedSign_0 neg _).mono ?_
  rintro e w1 ⟨rfl, rfl⟩
  go_wp2_with fail
  refine (HL.out _ ((Below.refl _ _).alloc (Nat.le_refl _) _)).mono ?_
  rintro e w1 ⟨rfl, hb1⟩
  go_wp2_with fail
  go_ret
  exact ⟨rfl, ((Below.refl _ _).alloc (Nat.le_refl _) _).trans (hb1.mono (by simp))⟩

set_option maxRecDepth 100000 in
set_option maxHeartbeats 1000000 in
theorem pu_x (tb g cap n i wy li ri k : Nat) (neg : Bool) (L T S1 S2 : ByteArray) (w : World) (hwy : isSg wy) (HA : Hid (At5 w tb g cap n i 88 wy li ri k)) (HL : Hid (Gives w tb li neg L)) (HT : Hid (T = bs [b8 (tn neg wy)]))
    (s1 : ∀ w : World, (Op.stringOp .add T ⟨#[88]⟩).run Try.prog w = .ok (.string S1) w) (s2 : ∀ w : World, (Op.stringOp .add S1 L).run Try.prog w = .ok (.string S2) w) :
    Calls Try.prog 33 #[.pointer (some ⟨tb, 0, none⟩), .int .i64 (i : Int), .bool neg] w fun e w' => e = .returned (.string S2) ∧ Below w.heap.size w w' := by
  obtain ⟨lt, glt, hi, c2, n0, n1, n2, n3, n4⟩ := HA.out
  have hi2 : (i : Int) < (n : Int) := by omega
  have HS : Hid (isSg wy) := hwy
  clear hwy
  go_enter Try.func33, Try.ntmps33
  go_wp2_with fail
  refine (pushedSign_any wy neg (.inl HS.out) _).mono ?_
  rintro e w1 ⟨rfl, rfl⟩
  rw [← HT.out]
  go_wp2_with fail
  refine (HL.out _ ((Below.refl _ _).alloc (Nat.le_refl _) _)).mono ?_
  rintro e w1 ⟨rfl, hb1⟩
  go_wp2_with fail
  go_ret
  exact ⟨rfl, ((Below.refl _ _).alloc (Nat.le_refl _) _).trans (hb1.mono (by simp))⟩

set_option maxRecDepth 100000 in
set_option maxHeartbeats 1000000 in
theorem pu_bin (tb g cap n i sg li ri k : Nat) (neg : Bool) (P S1 S2 : ByteArray) (w : World) (b33 : ((sg : Int) == 33) = false) (hq : ((sg : Int) == 38) = true ∨ (((sg : Int) == 38) = false ∧ ((sg : Int) == 43) = true)) (HA : Hid (At5 w tb g cap n i sg 0 li ri k))
    (HP : Hid (∀ W, Below w.heap.size w W → Calls Try.prog 51 #[.pointer (some ⟨tb, 0, none⟩), .agg #[.int .u8 (sg : Int), .int .u8 0, .int .i64 (li : Int), .int .i64 (ri : Int), .int .i64 (k : Int)], .bool neg] W fun e w' => e = .returned (.string P) ∧ Below W.heap.size W w'))
    (s1 : ∀ w : World, (Op.stringOp .add ⟨#[40]⟩ P).run Try.prog w = .ok (.string S1) w) (s2 : ∀ w : World, (Op.stringOp .add S1 ⟨#[41]⟩).run Try.prog w = .ok (.string S2) w) :
    Calls Try.prog 33 #[.pointer (some ⟨tb, 0, none⟩), .int .i64 (i : Int), .bool neg] w fun e w' => e = .returned (.string S2) ∧ Below w.heap.size w w' := by
  obtain ⟨lt, glt, hi, c2, n0, n1, n2, n3, n4⟩ := HA.out
  have hi2 : (i : Int) < (n : Int) := by omega
  rcases hq with hq | ⟨hq, hq2⟩
  all_goals
    go_enter Try.func33, Try.ntmps33
    go_wp2_with fail
    refine (pushedSign_0 neg _).mono ?_
    rintro e w1 ⟨rfl, rfl⟩
    go_wp2_with fail
    refine (HP.out _ ((Below.refl _ _).alloc (Nat.le_refl _) _)).mono ?_
    rintro e w1 ⟨rfl, hb1⟩
    go_wp2_with fail
    go_ret
    exact ⟨rfl, ((Below.refl _ _).alloc (Nat.le_refl _) _).trans (hb1.mono (by simp))⟩

set_option maxRecDepth 100000 in
set_option maxHeartbeats 1000000 in
theorem pu_way (tb g cap n i sg wy li ri k : Nat) (neg : Bool) (P T S0 S1 S2 : ByteArray) (w : World) (b33 : ((sg : Int) == 33) = false) (b38 : ((sg : Int) == 38) = false) (b43 : ((sg : Int) == 43) = false) (b88 : ((sg : Int) == 88) = false) (hq : ((sg : Int) == 85) = true ∨ (((sg : Int) == 85) = false ∧ ((sg : Int) == 82) = true)) (hwy : isSg wy) (HA : Hid (At5 w tb g cap n i sg wy li ri k))
    (HP : Hid (∀ W, Below w.heap.size w W → Calls Try.prog 51 #[.pointer (some ⟨tb, 0, none⟩), .agg #[.int .u8 (sg : Int), .int .u8 (wy : Int), .int .i64 (li : Int), .int .i64 (ri : Int), .int .i64 (k : Int)], .bool neg] W fun e w' => e = .returned (.string P) ∧ Below W.heap.size W w')) (HT : Hid (T = bs [b8 (tn neg wy)]))
    (s0 : ∀ w : World, (Op.stringOp .add T ⟨#[91]⟩).run Try.prog w = .ok (.string S0) w) (s1 : ∀ w : World, (Op.stringOp .add S0 P).run Try.prog w = .ok (.string S1) w) (s2 : ∀ w : World, (Op.stringOp .add S1 ⟨#[93]⟩).run Try.prog w = .ok (.string S2) w) :
    Calls Try.prog 33 #[.pointer (some ⟨tb, 0, none⟩), .int .i64 (i : Int), .bool neg] w fun e w' => e = .returned (.string S2) ∧ Below w.heap.size w w' := by
  obtain ⟨lt, glt, hi, c2, n0, n1, n2, n3, n4⟩ := HA.out
  have hi2 : (i : Int) < (n : Int) := by omega
  have HS : Hid (isSg wy) := hwy
  clear hwy
  rcases hq with hq | ⟨hq, hq2⟩
  all_goals
    go_enter Try.func33, Try.ntmps33
    go_wp2_with fail
    refine (pushedSign_any wy neg (.inl HS.out) _).mono ?_
    rintro e w1 ⟨rfl, rfl⟩
    rw [← HT.out]
    go_wp2_with fail
    refine (HP.out _ ((Below.refl _ _).alloc (Nat.le_refl _) _)).mono ?_
    rintro e w1 ⟨rfl, hb1⟩
    go_wp2_with fail
    go_ret
    exact ⟨rfl, ((Below.refl _ _).alloc (Nat.le_refl _) _).trans (hb1.mono (by simp))⟩

end Go.Proofs.Ytkjnhhbibaimfaa

namespace Go.Proofs.Ytkjnhhbibaimfaa
open Go.RowKit Fw
open Go.Deep (BT)
set_option linter.unusedVariables false

set_option maxRecDepth 100000 in
set_option maxHeartbeats 1000000 in
theorem pu_atom (tb g cap n i sg li ri k : Nat) (neg : Bool) (w : World) (hc : isAtom sg = true) (HA : Hid (At5 w tb g cap n i sg 0 li ri k)) :
    Calls Try.prog 33 #[.pointer (some ⟨tb, 0, none⟩), .int .i64 (i : Int), .bool neg] w fun e w' => e = .returned (.string (bs (if neg = true then [33, b8 sg] else [b8 sg]))) ∧ Below w.heap.size w w' := by
  obtain ⟨lt, glt, hi, c2, n0, n1, n2, n3, n4⟩ := HA.out
  have hi2 : (i : Int) < (n : Int) := by omega
  simp only [isAtom, decide_eq_true_eq] at hc
  have b33 : ((sg : Int) == 33) = false := by rw [beq_eq_false_iff_ne]; omega
  have b38 : ((sg : Int) == 38) = false := by rw [beq_eq_false_iff_ne]; omega
  have b43 : ((sg : Int) == 43) = false := by rw [beq_eq_false_iff_ne]; omega
  have b88 : ((sg : Int) == 88) = false := by rw [beq_eq_false_iff_ne]; omega
  have b85 : ((sg : Int) == 85) = false := by rw [beq_eq_false_iff_ne]; omega
  have b82 : ((sg : Int) == 82) = false := by rw [beq_eq_false_iff_ne]; omega
  have hlt : sg < 128 := by omega
  obtain ⟨E, hE⟩ : ∃ E, E = bs [b8 sg] := ⟨_, rfl⟩
  have hcv : ∀ w : World, (convert 5 9 (.int .u8 (sg : Int))).run Try.prog w = .ok (.string E) w := by
    intro w
    rw [run_convert_int_string w 5 9 .u8 (sg : Int) (by rw [Try.underlying5]; rfl) Try.underlying9, enc_of sg hlt, hE]
  obtain ⟨S, hS⟩ : ∃ S, S = bs [33, b8 sg] := ⟨_, rfl⟩
  have s1 : ∀ w : World, (Op.stringOp .add ⟨#[33]⟩ E).run Try.prog w = .ok (.string S) w := by rw [hE, hS]; exact sum_bs (a := [33]) (by simp) rfl
  have HE : Hid (E = bs [b8 sg]) := hE
  have HS : Hid (S = bs [33, b8 sg]) := hS
  clear hc hE hS
  cases neg with
  | true =>
    go_enter Try.func33, Try.ntmps33
    go_wp2_with fail
    refine (pushedSign_0 true _).mono ?_
    rintro e w1 ⟨rfl, rfl⟩
    generalize bs [b8 (tn true 0)] = X
    clear n0 n1 n2 n3 n4 c2 hi2 hi lt glt
    go_wp2_with fail
    go_ret
    exact ⟨ret_str HS.out, (Below.refl _ _).alloc (Nat.le_refl _) _⟩
  | false =>
    go_enter Try.func33, Try.ntmps33
    go_wp2_with fail
    refine (pushedSign_0 false _).mono ?_
    rintro e w1 ⟨rfl, rfl⟩
    generalize bs [b8 (tn false 0)] = X
    clear n0 n1 n2 n3 n4 c2 hi2 hi lt glt s1 HS
    go_wp2_with fail
    go_ret
    exact ⟨ret_str HE.out, (Below.refl _ _).alloc (Nat.le_refl _) _⟩

end Go.Proofs.Ytkjnhhbibaimfaa

namespace Go.Proofs.Ytkjnhhbibaimfaa
open Go.RowKit Fw
open Go.Deep (BT)
set_option linter.unusedVariables false

theorem gives_of {t : Fm} (h : PuAt t) {w : World} {i tb g cap : Nat} {ns : List Nd} (neg : Bool) (ht : Tn w tb g cap ns) (hr : Rep ns t i) (hl : (txt t).length ≤ 60) : Gives w tb i neg (bs (push t neg)) :=
  fun w' hb => h i tb g cap ns neg w' (ht.below hb) hr hl

theorem two_0 (tb sg li ri k : Nat) (neg : Bool) (L R T S1 S2 : ByteArray) (w : World) (hsg : isSg sg) (HL : Hid (Gives w tb li neg L)) (HR : Hid (Gives w tb ri neg R)) (HT : Hid (T = bs [b8 (tn neg sg)]))
    (s1 : ∀ w : World, (Op.stringOp .add L T).run Try.prog w = .ok (.string S1) w) (s2 : ∀ w : World, (Op.stringOp .add S1 R).run Try.prog w = .ok (.string S2) w) :
    Calls Try.prog 51 #[.pointer (some ⟨tb, 0, none⟩), .agg #[.int .u8 (sg : Int), .int .u8 0, .int .i64 (li : Int), .int .i64 (ri : Int), .int .i64 (k : Int)], .bool neg] w fun e w' => e = .returned (.string S2) ∧ Below w.heap.size w w' :=
  two_core tb sg 0 li ri k neg L R T S1 S2 w hsg HL HR HT s1 s2

theorem bin_facts {sg : Nat} (h : sg = 38 ∨ sg = 43) : ((sg : Int) == 33) = false ∧ (((sg : Int) == 38) = true ∨ (((sg : Int) == 38) = false ∧ ((sg : Int) == 43) = true)) := by
  rcases h with rfl | rfl <;> decide
theorem ur_facts {sg : Nat} (h : sg = 85 ∨ sg = 82) : ((sg : Int) == 33) = false ∧ ((sg : Int) == 38) = false ∧ ((sg : Int) == 43) = false ∧ ((sg : Int) == 88) = false ∧ (((sg : Int) == 85) = true ∨ (((sg : Int) == 85) = false ∧ ((sg : Int) == 82) = true)) := by
  rcases h with rfl | rfl <;> decide

theorem pu_any : ∀ (t : Fm), good t → PuAt t := by
  intro t
  induction t with
  | nil => intro h; exact absurd h (by simp [good])
  | node sg wy u l r ihl ihr =>
    intro h i tb g cap ns neg w ht hrep hlen
    cases u
    obtain ⟨li, ri, hnd, hl, hr⟩ := hrep
    have hat := ht.at hnd
    clear hnd
    rcases good_cases h with ⟨c, e, hc, hT⟩ | ⟨x, e, hx, hT⟩ | ⟨s, x, y, e, hs, hx, hy, hT⟩ | ⟨v, x, e, hv, hx, hT⟩ | ⟨s, v, x, y, e, hs, hv, hx, hy, hT⟩
    · injection e with e3 e0 _ e1 e2
      subst e3 e0 e1 e2
      rw [push_atom hc]
      exact pu_atom tb g cap _ i sg li ri _ neg w hc hat
    · injection e with e3 e0 _ e1 e2
      subst e3 e0 e1 e2
      rw [hT] at hlen
      simp only [List.length_cons] at hlen
      rw [push_not]
      exact pu_not tb g cap _ i li ri _ neg _ w hat (gives_of (ihl hx) (!neg) ht hl (by omega))
    · injection e with e3 e0 _ e1 e2
      subst e3 e0 e1 e2
      rw [hT] at hlen
      simp only [List.length_cons, List.length_append, List.length_nil] at hlen
      have z1 := push_len l hx neg
      have z2 := push_len r hy neg
      obtain ⟨f1, f2⟩ := bin_facts hs
      rw [push_bin hs]
      exact pu_bin tb g cap _ i sg li ri _ neg (bs ((push l neg ++ [b8 (tn neg sg)]) ++ push r neg)) (bs (40 :: ((push l neg ++ [b8 (tn neg sg)]) ++ push r neg))) _ w f1 f2 hat
        (fun W hb => two_0 tb sg li ri _ neg (bs (push l neg)) (bs (push r neg)) (bs [b8 (tn neg sg)]) (bs (push l neg ++ [b8 (tn neg sg)])) _ W (by unfold isSg; omega) ((gives_of (ihl hx) neg ht hl (by omega)).later hb) ((gives_of (ihr hy) neg ht hr (by omega)).later hb) rfl
          (sum_bs (by simp; omega) rfl) (sum_bs (by simp; omega) rfl))
        (sum_bs (a := [40]) (by simp; omega) rfl) (sum_bs (b := [41]) (by simp; omega) (by simp))
    · injection e with e3 e0 _ e1 e2
      subst e3 e0 e1 e2
      rw [hT] at hlen
      simp only [List.length_cons] at hlen
      have z1 := push_len l hx neg
      rw [push_x]
      exact pu_x tb g cap _ i wy li ri _ neg (bs (push l neg)) (bs [b8 (tn neg wy)]) (bs [b8 (tn neg wy), 88]) _ w (by unfold isSg; omega) hat (gives_of (ihl hx) neg ht hl (by omega)) rfl
        (sum_bs (b := [88]) (by simp) rfl) (sum_bs (by simp; omega) rfl)
    · injection e with e3 e0 _ e1 e2
      subst e3 e0 e1 e2
      rw [hT] at hlen
      simp only [List.length_cons, List.length_append, List.length_nil] at hlen
      have z1 := push_len l hx neg
      have z2 := push_len r hy neg
      obtain ⟨f1, f2, f3, f4, f5⟩ := ur_facts hs
      rw [push_way hs]
      exact pu_way tb g cap _ i sg wy li ri _ neg (bs ((push l neg ++ [b8 (tn neg sg)]) ++ push r neg)) (bs [b8 (tn neg wy)]) (bs [b8 (tn neg wy), 91]) (bs ([b8 (tn neg wy), 91] ++ ((push l neg ++ [b8 (tn neg sg)]) ++ push r neg))) _ w f1 f2 f3 f4 f5 (by unfold isSg; omega) hat
        (fun W hb => two_core tb sg wy li ri _ neg (bs (push l neg)) (bs (push r neg)) (bs [b8 (tn neg sg)]) (bs (push l neg ++ [b8 (tn neg sg)])) _ W (by unfold isSg; omega) ((gives_of (ihl hx) neg ht hl (by omega)).later hb) ((gives_of (ihr hy) neg ht hr (by omega)).later hb) rfl
          (sum_bs (by simp; omega) rfl) (sum_bs (by simp; omega) rfl)) rfl
        (sum_bs (b := [91]) (by simp) rfl) (sum_bs (by simp; omega) rfl) (sum_bs (b := [93]) (by simp; omega) (by simp))

/-- P5's text, of any text -/
def pshAll (s : ByteArray) : ByteArray := if (frmAll s).1 = 0 then bs (push (ptAll s).2.2 false) else ⟨#[]⟩

set_option maxRecDepth 100000 in
set_option maxHeartbeats 1000000 in
theorem refPush_all (s : ByteArray) (w : World) :
    Calls Try.prog 39 #[.string s] w fun e w' => e = .returned (.tuple #[.string (pshAll s), .int .i64 ((frmAll s).1 : Nat)]) ∧ Below w.heap.size w w' := by
  by_cases h0 : (frmAll s).1 = 0
  · have hs : s.size ≤ 30 := by
      by_cases hs : s.size ≤ 30
      · exact hs
      · have e0 : frmAll s = (1, 0) := if_neg hs
        rw [e0] at h0
        simp at h0
    have HP : Hid (pshAll s = bs (push (ptAll s).2.2 false)) := if_pos h0
    have HG : Hid (good (ptAll s).2.2 ∧ s.data.toList = txt (ptAll s).2.2) := by
      by_cases hb : (ptAll s).1 = true ∧ (ptAll s).2.1 = []
      · have hp := pt_sound (s.size + 1) (tl s 0) hb.1
        have h2 : (pt (s.size + 1) (tl s 0)).2.1 = [] := hb.2
        refine ⟨hp.2, ?_⟩
        have e1 := hp.1
        rw [h2, List.append_nil] at e1
        rw [← tl0]
        exact e1
      · have hf : frmAll s = frm s := if_pos hs
        rw [hf, frm_bad hb] at h0
        simp at h0
    have H0 : Hid ((frmAll s).1 = 0) := h0
    go_enter Try.func39, Try.ntmps39
    go_wp2_with fail
    refine (refForm_all s _).mono ?_
    rintro e w1 ⟨rfl, n, rfl⟩
    rw [h0]
    clear h0
    go_wp2_with fail
    refine (pushed_any (ptAll s).2.2 HG.out.1 false s _ HG.out.2 (by omega)).mono ?_
    rintro e w2 ⟨rfl, hb⟩
    go_wp2_with fail
    go_ret2
    exact ⟨by rw [HP.out, H0.out]; rfl, (below_drewN (Below.refl _ _) n).trans hb⟩
  · have HP : Hid (pshAll s = ⟨#[]⟩) := if_neg h0
    have hne : (((frmAll s).1 : Int) != 0) = true := by rw [bne_iff_ne]; omega
    go_enter Try.func39, Try.ntmps39
    go_wp2_with fail
    refine (refForm_all s _).mono ?_
    rintro e w1 ⟨rfl, n, rfl⟩
    go_wp2_with fail
    go_ret2
    exact ⟨by rw [HP.out]; rfl, below_drewN (Below.refl _ _) n⟩

/-- what loadFormula answers, of any text -/
theorem loadFormula_tree (s : ByteArray) (w : World) :
    Calls Try.prog 32 #[.string s] w fun e w' => Below w.heap.size w w' ∧ ∃ (a : Option Addr) (n cap : Nat) (r : Int), e = .returned (.agg #[.int .i64 ((frmAll s).1 : Nat), .int .i64 ((frmAll s).2 : Nat), .slice a n cap, .int .i64 r]) ∧
      ((frmAll s).1 = 0 → s.size ≤ 30 ∧ ∃ ns, ∃ i : Nat, r = (i : Int) ∧ w'.ownsRow (w.heap.size + 2) 97 5 (.slice a n cap) ns.length (flatN ns) ∧ Rep ns (ptAll s).2.2 i ∧ good (ptAll s).2.2 ∧ s.data.toList = txt (ptAll s).2.2 ∧ Clo ns ∧ ns.length ≤ 30) := by
  by_cases hs : s.size ≤ 30
  · refine (loadFormula_any s w hs).mono ?_
    have e0 : frmAll s = frm s := if_pos hs
    rintro e w' ⟨hb, ⟨h1, rfl⟩ | ⟨h1, h2, h3, rfl⟩ | ⟨h1, h2, h3, v, ns, i, rfl, hown, hrep, hclo, hnl⟩⟩
    · exact ⟨hb, _, _, _, _, by rw [e0, frm_bad h1]; rfl, by rw [e0, frm_bad h1]; intro h; simp at h⟩
    · exact ⟨hb, _, _, _, _, by rw [e0, frm_deep h1 h2 h3]; rfl, by rw [e0, frm_deep h1 h2 h3]; intro h; simp at h⟩
    · obtain ⟨a, cap, rfl⟩ : ∃ a cap, v = .slice a ns.length cap := by
        rcases hown.2 with ⟨q1, q2⟩ | ⟨g, cap, cur, q1, _⟩
        · exact ⟨none, 0, by rw [q1, q2]⟩
        · exact ⟨_, _, q1⟩
      refine ⟨hb, a, ns.length, cap, i, by rw [e0, frm_good h1 h2 h3]; rfl, fun _ => ⟨hs, ns, i, rfl, hown, hrep, ?_⟩⟩
      have hp := pt_sound (s.size + 1) (tl s 0) h1
      refine ⟨hp.2, ?_, hclo, hnl⟩
      have e1 := hp.1
      have h2' : (pt (s.size + 1) (tl s 0)).2.1 = [] := h2
      rw [h2', List.append_nil, tl0] at e1
      rw [e1]
      show txt (pt (s.size + 1) s.data.toList).2.2 = txt (pt (s.size + 1) (tl s 0)).2.2
      rw [tl0]
  · refine (loadFormula_long s w hs).mono ?_
    rintro e w' ⟨rfl, hb⟩
    have e0 : frmAll s = (1, 0) := if_neg hs
    exact ⟨hb, _, _, _, _, by rw [e0]; rfl, by rw [e0]; intro h; simp at h⟩

theorem tn_new {w : World} {base n cap : Nat} {a : Option Addr} {ns : List Nd} (hown : w.ownsRow base 97 5 (.slice a n cap) ns.length (flatN ns)) (hl : 0 < ns.length) :
    ∃ g, a = some ⟨g, 0, none⟩ ∧ n = ns.length ∧ ∀ x y r, Tn (w.alloc (.cells #[x, y, .slice (some ⟨g, 0, none⟩) ns.length cap, r] 64)) w.heap.size g cap ns := by
  obtain ⟨g, cap2, hv, hb, hlt⟩ := hown.form hl
  injection hv with h1 h2 h3
  refine ⟨g, h1, h2, fun x y r => ⟨by simp, by simp; omega, by simp, ?_⟩⟩
  intro i z hz j u hu
  have hj : j < 5 := by
    have := (List.getElem?_eq_some_iff.1 hu).1
    simpa [five] using this
  have hc := hown.cells (g := g) (by rw [h1]; rfl) (i * 5 + j) u (by rw [flatN_get z ns i j hz hj]; exact hu)
  rw [World.cell?_of_block (w := w) (Below.heap_alloc w _ g hlt)]
  rw [Go.WideShapes.add_plain, Nat.zero_add] at hc
  exact hc

set_option maxRecDepth 100000 in
set_option maxHeartbeats 1000000 in
theorem push_all (s : ByteArray) (w : World) :
    Calls Try.prog 23 #[.string s] w fun e w' => e = .returned (.tuple #[.string (pshAll s), .int .i64 ((frmAll s).1 : Nat)]) ∧ Below w.heap.size w w' := by
  by_cases h0 : (frmAll s).1 = 0
  · have HP : Hid (pshAll s = bs (push (ptAll s).2.2 false)) := if_pos h0
    have H0 : Hid ((frmAll s).1 = 0) := h0
    go_enter Try.func23, Try.ntmps23
    go_wp2_with fail
    refine (loadFormula_tree s _).mono ?_
    rintro e w1 ⟨hb1, a, n, cap, r, rfl, hh⟩
    obtain ⟨hs, ns, i, rfl, hown, hrep, hg, ht, _⟩ := hh h0
    obtain ⟨t, hteq⟩ : ∃ t, t = (ptAll s).2.2 := ⟨_, rfl⟩
    rw [← hteq] at hrep hg ht HP
    obtain ⟨g, rfl, rfl, htn⟩ := tn_new hown (by have := (hrep.lt hg).1; omega)
    have hz := size_of ht
    have HC : Hid (∀ x y r, Calls Try.prog 33 #[.pointer (some ⟨w1.heap.size, 0, none⟩), .int .i64 (i : Int), .bool false] (w1.alloc (.cells #[x, y, .slice (some ⟨g, 0, none⟩) ns.length cap, r] 64)) fun e w' => e = .returned (.string (bs (push t false))) ∧ Below (w1.heap.size + 1) (w1.alloc (.cells #[x, y, .slice (some ⟨g, 0, none⟩) ns.length cap, r] 64)) w') := by
      intro x y r
      refine (pu_any t hg i w1.heap.size g cap ns false _ (htn x y r) hrep (by omega)).mono ?_
      rintro e w' ⟨h1, h2⟩
      exact ⟨h1, by simpa using h2⟩
    rw [h0]
    have hsz := hb1.size
    clear h0 hh hown hrep hg ht htn hteq hz
    go_wp2_with fail
    refine (HC.out _ _ _).mono ?_
    rintro e w2 ⟨rfl, hb2⟩
    go_wp2_with fail
    go_ret2
    exact ⟨by rw [HP.out, H0.out]; rfl, (hb1.alloc hsz _).trans (hb2.mono (by omega))⟩
  · have HP : Hid (pshAll s = ⟨#[]⟩) := if_neg h0
    have hne : (((frmAll s).1 : Int) != 0) = true := by rw [bne_iff_ne]; omega
    go_enter Try.func23, Try.ntmps23
    go_wp2_with fail
    refine (loadFormula_all s _).mono ?_
    rintro e w1 ⟨hb1, a, n, cap, r, rfl, _⟩
    have hsz := hb1.size
    go_wp2_with fail
    go_quiet (fail)
    go_wp2
    go_ret2
    exact ⟨by rw [HP.out]; rfl, below_drewN (hb1.alloc hsz _) _⟩

theorem bytes_beq (a : ByteArray) : (a.toList == a.toList) = true := by simp

set_option maxRecDepth 100000 in
set_option maxHeartbeats 1000000 in
theorem plays_push (n : Int) (g f s c : ByteArray) (w : World) :
    Calls Try.prog 28 #[.agg #[.int .i64 3, .int .i64 n, .string g, .string f, .string s, .string c]] w fun e w' => e = .returned (.bool true) ∧ Below w.heap.size w w' := by
  go_enter Try.func28, Try.ntmps28
  go_wp2_with fail
  refine (push_all s _).mono ?_
  rintro e w1 ⟨rfl, hb1⟩
  have hsz := hb1.size
  have hg : w1.cell? ⟨w.heap.size, 4, none⟩ = some (.string s) := by rw [hb1.cell (p := ⟨w.heap.size, 4, none⟩) (by simp)]; simp
  go_wp2_with fail
  refine (refPush_all s _).mono ?_
  rintro e w2 ⟨rfl, hb2⟩
  have h1 := bytes_beq (pshAll s)
  go_wp2_with (go_at_call 36; refine (num_anyY _ _).mono ?_; rintro e w3 ⟨rfl, rfl⟩)
  go_ret
  exact ⟨by simp, (((Below.refl _ _).alloc (Nat.le_refl _) _).trans (hb1.mono (by simp))).trans (hb2.mono (by simp at hsz; omega))⟩

theorem plays3 : PlaysAll 3 3 := by
  intro k n g f s c w h1 h2 _ _ _ _ _
  obtain rfl : k = 3 := by omega
  exact plays_push n g f s c w

set_option maxRecDepth 100000 in
set_option maxHeartbeats 1000000 in
theorem pushes_walk (hp : PlaysAll 3 3) (a : Option Addr) (len cap : Nat) (w : World) (HO : Hid (IsOps w a len cap)) :
    Calls Try.prog 5 #[.slice a len cap] w fun e w' => e = .returned (.bool true) ∧ Below w.heap.size w w' := by
  go_enter Try.func5, Try.ntmps5
  go_wp2_with fail
  refine (upTo_any 3 3 hp a len cap _ HO).mono ?_
  rintro e w1 ⟨rfl, hb⟩
  go_wp2_with fail
  go_ret
  exact ⟨rfl, hb⟩

end Go.Proofs.Ytkjnhhbibaimfaa

