import Derived.Test.YtcfbfdjmcabnkaaG7
import Derived.Test.YtcfbfdjmcabnkaaG6
import Derived.Test.YtcfbfdjmcabnkaaG3
namespace Go.Proofs.Ytcfbfdjmcabnkaa
open Go.RowKit Fw
open Go.Deep (BT)
set_option linter.unusedVariables false

/-- what text is to tell of a node -/
def TxAt (t : Fm) : Prop := ∀ (i tb g cap : Nat) (ns : List Nd) (w : World), Tn w tb g cap ns → Rep ns t i → (txt t).length ≤ 1000 →
  Calls Try.prog 31 #[.pointer (some ⟨tb, 0, none⟩), .int .i64 (i : Int)] w fun e w' => e = .returned (.string (bs (txt t))) ∧ Below w.heap.size w w'

/-- the answer of a call of a part, from any world behind this one -/
def GivesT (w : World) (tb li : Nat) (L : ByteArray) : Prop := ∀ w', Below w.heap.size w w' →
  Calls Try.prog 31 #[.pointer (some ⟨tb, 0, none⟩), .int .i64 (li : Int)] w' fun e w'' => e = .returned (.string L) ∧ Below w'.heap.size w' w''

theorem GivesT.later {w W : World} {tb li : Nat} {L : ByteArray} (h : GivesT w tb li L) (hb : Below w.heap.size w W) : GivesT W tb li L :=
  fun w' hw => h w' (hb.trans (hw.mono hb.size))

/-- a sign as a text -/
def CvIs (sg : Nat) (T : ByteArray) : Prop := ∀ w : World, (convert 5 9 (.int .u8 (sg : Int))).run Try.prog w = .ok (.string T) w

set_option maxRecDepth 100000 in
set_option maxHeartbeats 1000000 in
theorem txtwo_core (tb sg wy li ri k : Nat) (L R T S1 S2 : ByteArray) (w : World) (HL : Hid (GivesT w tb li L)) (HR : Hid (GivesT w tb ri R))
    (hcv : ∀ w : World, (convert 5 9 (.int .u8 (sg : Int))).run Try.prog w = .ok (.string T) w)
    (s1 : ∀ w : World, (Op.stringOp .add L T).run Try.prog w = .ok (.string S1) w) (s2 : ∀ w : World, (Op.stringOp .add S1 R).run Try.prog w = .ok (.string S2) w) :
    Calls Try.prog 40 #[.pointer (some ⟨tb, 0, none⟩), .agg #[.int .u8 (sg : Int), .int .u8 (wy : Int), .int .i64 (li : Int), .int .i64 (ri : Int), .int .i64 (k : Int)]] w fun e w' => e = .returned (.string S2) ∧ Below w.heap.size w w' := by
  go_enter Try.func40, Try.ntmps40
  go_wp2_with fail
  refine (HL.out _ ((Below.refl _ _).alloc (Nat.le_refl _) _)).mono ?_
  rintro e w1 ⟨rfl, hb1⟩
  have hz1 := hb1.size
  have HB1 : Hid (Below w.heap.size w w1) := ((Below.refl _ _).alloc (Nat.le_refl _) _).trans (hb1.mono (by simp))
  have c3 : w1.cell? ⟨w.heap.size, 3, none⟩ = some (.int .i64 (ri : Int)) := by rw [hb1.cell (p := ⟨w.heap.size, 3, none⟩) (by simp)]; simp
  have c0 : w1.cell? ⟨w.heap.size, 0, none⟩ = some (.int .u8 (sg : Int)) := by rw [hb1.cell (p := ⟨w.heap.size, 0, none⟩) (by simp)]; simp
  have hlt : w.heap.size < w1.heap.size := by simp at hz1; omega
  clear hb1 hz1
  go_wp2_with fail
  refine (HR.out _ HB1.out).mono ?_
  rintro e w2 ⟨rfl, hb2⟩
  have HB2 : Hid (Below w.heap.size w w2) := HB1.out.trans (hb2.mono HB1.out.size)
  have d0 : w2.cell? ⟨w.heap.size, 0, none⟩ = some (.int .u8 (sg : Int)) := by rw [hb2.cell (p := ⟨w.heap.size, 0, none⟩) hlt]; exact c0
  clear hb2 c0 c3
  go_wp2_with fail
  go_ret
  exact ⟨rfl, HB2.out⟩

set_option maxRecDepth 100000 in
set_option maxHeartbeats 1000000 in
theorem tx_not (tb g cap n i li ri k : Nat) (L S1 : ByteArray) (w : World) (HA : Hid (At5 w tb g cap n i 33 0 li ri k)) (HL : Hid (GivesT w tb li L))
    (s1 : ∀ w : World, (Op.stringOp .add ⟨#[33]⟩ L).run Try.prog w = .ok (.string S1) w) :
    Calls Try.prog 31 #[.pointer (some ⟨tb, 0, none⟩), .int .i64 (i : Int)] w fun e w' => e = .returned (.string S1) ∧ Below w.heap.size w w' := by
  obtain ⟨lt, glt, hi, c2, n0, n1, n2, n3, n4⟩ := HA.out
  have hi2 : (i : Int) < (n : Int) := by omega
  go_enter Try.func31, Try.ntmps31
  go_wp2_with fail
  refine (HL.out _ ((Below.refl _ _).alloc (Nat.le_refl _) _)).mono ?_
  rintro e w1 ⟨rfl, hb1⟩
  go_wp2_with fail
  go_ret
  exact ⟨rfl, ((Below.refl _ _).alloc (Nat.le_refl _) _).trans (hb1.mono (by simp))⟩

set_option maxRecDepth 100000 in
set_option maxHeartbeats 1000000 in
theorem tx_bin (tb g cap n i sg li ri k : Nat) (P S1 S2 : ByteArray) (w : World) (b33 : ((sg : Int) == 33) = false) (hq : ((sg : Int) == 38) = true ∨ (((sg : Int) == 38) = false ∧ ((sg : Int) == 43) = true)) (HA : Hid (At5 w tb g cap n i sg 0 li ri k))
    (HP : Hid (∀ W, Below w.heap.size w W → Calls Try.prog 40 #[.pointer (some ⟨tb, 0, none⟩), .agg #[.int .u8 (sg : Int), .int .u8 0, .int .i64 (li : Int), .int .i64 (ri : Int), .int .i64 (k : Int)]] W fun e w' => e = .returned (.string P) ∧ Below W.heap.size W w'))
    (s1 : ∀ w : World, (Op.stringOp .add ⟨#[40]⟩ P).run Try.prog w = .ok (.string S1) w) (s2 : ∀ w : World, (Op.stringOp .add S1 ⟨#[41]⟩).run Try.prog w = .ok (.string S2) w) :
    Calls Try.prog 31 #[.pointer (some ⟨tb, 0, none⟩), .int .i64 (i : Int)] w fun e w' => e = .returned (.string S2) ∧ Below w.heap.size w w' := by
  obtain ⟨lt, glt, hi, c2, n0, n1, n2, n3, n4⟩ := HA.out
  have hi2 : (i : Int) < (n : Int) := by omega
  rcases hq with hq | ⟨hq, hq2⟩
  all_goals
    go_enter Try.func31, Try.ntmps31
    go_wp2_with fail
    refine (HP.out _ ((Below.refl _ _).alloc (Nat.le_refl _) _)).mono ?_
    rintro e w1 ⟨rfl, hb1⟩
    go_wp2_with fail
    go_ret
    exact ⟨rfl, ((Below.refl _ _).alloc (Nat.le_refl _) _).trans (hb1.mono (by simp))⟩

set_option maxRecDepth 100000 in
set_option maxHeartbeats 1000000 in
theorem tx_atom (tb g cap n i sg li ri k : Nat) (w : World) (hc : isAtom sg = true) (HA : Hid (At5 w tb g cap n i sg 0 li ri k)) :
    Calls Try.prog 31 #[.pointer (some ⟨tb, 0, none⟩), .int .i64 (i : Int)] w fun e w' => e = .returned (.string (bs [b8 sg])) ∧ Below w.heap.size w w' := by
  obtain ⟨lt, glt, hi, c2, n0, n1, n2, n3, n4⟩ := HA.out
  have hi2 : (i : Int) < (n : Int) := by omega
  simp only [isAtom, decide_eq_true_eq] at hc
  have b33 : ((sg : Int) == 33) = false := by rw [beq_eq_false_iff_ne]; omega
  have b38 : ((sg : Int) == 38) = false := by rw [beq_eq_false_iff_ne]; omega
  have b43 : ((sg : Int) == 43) = false := by rw [beq_eq_false_iff_ne]; omega
  have b88 : ((sg : Int) == 88) = false := by rw [beq_eq_false_iff_ne]; omega
  have b85 : ((sg : Int) == 85) = false := by rw [beq_eq_false_iff_ne]; omega
  have b82 : ((sg : Int) == 82) = false := by rw [beq_eq_false_iff_ne]; omega
  have hlt : sg < 128 := by omega
  obtain ⟨E, hE⟩ : ∃ E, E = bs [b8 sg] := ⟨_, rfl⟩
  have hcv : ∀ w : World, (convert 5 9 (.int .u8 (sg : Int))).run Try.prog w = .ok (.string E) w := by
    intro w
    rw [run_convert_int_string w 5 9 .u8 (sg : Int) (by rw [Try.underlying5]; rfl) Try.underlying9, enc_of sg hlt, hE]
  have HE : Hid (E = bs [b8 sg]) := hE
  clear hc hE
  go_enter Try.func31, Try.ntmps31
  go_wp2_with fail
  go_ret
  exact ⟨ret_str HE.out, (Below.refl _ _).alloc (Nat.le_refl _) _⟩

end Go.Proofs.Ytcfbfdjmcabnkaa

namespace Go.Proofs.Ytcfbfdjmcabnkaa
open Go.RowKit Fw
open Go.Deep (BT)
set_option linter.unusedVariables false

set_option maxRecDepth 100000 in
set_option maxHeartbeats 1000000 in
theorem tx_x (tb g cap n i wy li ri k : Nat) (L T S1 S2 : ByteArray) (w : World) (HA : Hid (At5 w tb g cap n i 88 wy li ri k)) (HL : Hid (GivesT w tb li L))
    (hcv : ∀ w : World, (convert 5 9 (.int .u8 (wy : Int))).run Try.prog w = .ok (.string T) w)
    (s1 : ∀ w : World, (Op.stringOp .add T ⟨#[88]⟩).run Try.prog w = .ok (.string S1) w) (s2 : ∀ w : World, (Op.stringOp .add S1 L).run Try.prog w = .ok (.string S2) w) :
    Calls Try.prog 31 #[.pointer (some ⟨tb, 0, none⟩), .int .i64 (i : Int)] w fun e w' => e = .returned (.string S2) ∧ Below w.heap.size w w' := by
  obtain ⟨lt, glt, hi, c2, n0, n1, n2, n3, n4⟩ := HA.out
  have hi2 : (i : Int) < (n : Int) := by omega
  go_enter Try.func31, Try.ntmps31
  go_wp2_with fail
  generalize hW : w.alloc (Obj.cells #[Value.int IntKind.u8 88, Value.int IntKind.u8 ↑wy, Value.int IntKind.i64 ↑li, Value.int IntKind.i64 ↑ri, Value.int IntKind.i64 ↑k] 84) = W
  have d1 : W.cell? ⟨w.heap.size, 1, none⟩ = some (Value.int IntKind.u8 ↑wy) := by rw [← hW]; simp
  have d2 : W.cell? ⟨w.heap.size, 2, none⟩ = some (Value.int IntKind.i64 ↑li) := by rw [← hW]; simp
  have hbel : Below w.heap.size w W := by rw [← hW]; exact (Below.refl _ _).alloc (Nat.le_refl _) _
  have hlt : w.heap.size < W.heap.size := by rw [← hW]; simp
  clear hW
  go_region_held3 (fun w' => w'.cell? ⟨w.heap.size, 1, none⟩ = some (.int .u8 (wy : Int)) ∧ w'.cell? ⟨w.heap.size, 2, none⟩ = some (.int .i64 (li : Int))) (first
      | exact ⟨d1, d2⟩
      | exact ⟨e1, e2⟩) (first
    | (go_at_call 31; refine (HL.out _ hbel.drew).mono ?_; rintro e w1 ⟨rfl, hb1⟩
       have e1 : w1.cell? ⟨w.heap.size, 1, none⟩ = some (Value.int IntKind.u8 ↑wy) := (hb1.cell (p := ⟨w.heap.size, 1, none⟩) hlt).trans d1
       have e2 : w1.cell? ⟨w.heap.size, 2, none⟩ = some (Value.int IntKind.i64 ↑li) := (hb1.cell (p := ⟨w.heap.size, 2, none⟩) hlt).trans d2
       have hbel1 : Below w.heap.size w w1 := hbel.drew.trans (hb1.mono hbel.size)))
  all_goals
    go_wp2_with fail
    go_ret
    exact ⟨rfl, hbel1⟩

set_option maxRecDepth 100000 in
set_option maxHeartbeats 1000000 in
theorem tx_way (tb g cap n i sg wy li ri k : Nat) (P T S0 S1 S2 : ByteArray) (w : World) (b33 : ((sg : Int) == 33) = false) (b38 : ((sg : Int) == 38) = false) (b43 : ((sg : Int) == 43) = false) (b88 : ((sg : Int) == 88) = false) (hq : ((sg : Int) == 85) = true ∨ (((sg : Int) == 85) = false ∧ ((sg : Int) == 82) = true)) (HA : Hid (At5 w tb g cap n i sg wy li ri k))
    (HP : Hid (∀ W, Below w.heap.size w W → Calls Try.prog 40 #[.pointer (some ⟨tb, 0, none⟩), .agg #[.int .u8 (sg : Int), .int .u8 (wy : Int), .int .i64 (li : Int), .int .i64 (ri : Int), .int .i64 (k : Int)]] W fun e w' => e = .returned (.string P) ∧ Below W.heap.size W w'))
    (hcv : ∀ w : World, (convert 5 9 (.int .u8 (wy : Int))).run Try.prog w = .ok (.string T) w)
    (s0 : ∀ w : World, (Op.stringOp .add T ⟨#[91]⟩).run Try.prog w = .ok (.string S0) w) (s1 : ∀ w : World, (Op.stringOp .add S0 P).run Try.prog w = .ok (.string S1) w) (s2 : ∀ w : World, (Op.stringOp .add S1 ⟨#[93]⟩).run Try.prog w = .ok (.string S2) w) :
    Calls Try.prog 31 #[.pointer (some ⟨tb, 0, none⟩), .int .i64 (i : Int)] w fun e w' => e = .returned (.string S2) ∧ Below w.heap.size w w' := by
  obtain ⟨lt, glt, hi, c2, n0, n1, n2, n3, n4⟩ := HA.out
  have hi2 : (i : Int) < (n : Int) := by omega
  rcases hq with hq | ⟨hq, hq2⟩
  all_goals
    go_enter Try.func31, Try.ntmps31
    go_wp2_with fail
    generalize hW : w.alloc (Obj.cells #[Value.int IntKind.u8 ↑sg, Value.int IntKind.u8 ↑wy, Value.int IntKind.i64 ↑li, Value.int IntKind.i64 ↑ri, Value.int IntKind.i64 ↑k] 84) = W
    have d0 : W.cell? ⟨w.heap.size, 0, none⟩ = some (Value.int IntKind.u8 ↑sg) := by rw [← hW]; simp
    have d1 : W.cell? ⟨w.heap.size, 1, none⟩ = some (Value.int IntKind.u8 ↑wy) := by rw [← hW]; simp
    have d2 : W.cell? ⟨w.heap.size, 2, none⟩ = some (Value.int IntKind.i64 ↑li) := by rw [← hW]; simp
    have d3 : W.cell? ⟨w.heap.size, 3, none⟩ = some (Value.int IntKind.i64 ↑ri) := by rw [← hW]; simp
    have d4 : W.cell? ⟨w.heap.size, 4, none⟩ = some (Value.int IntKind.i64 ↑k) := by rw [← hW]; simp
    have hbel : Below w.heap.size w W := by rw [← hW]; exact (Below.refl _ _).alloc (Nat.le_refl _) _
    have hlt : w.heap.size < W.heap.size := by rw [← hW]; simp
    clear hW
    go_region_held3 (fun w' => w'.cell? ⟨w.heap.size, 0, none⟩ = some (.int .u8 (sg : Int)) ∧ w'.cell? ⟨w.heap.size, 1, none⟩ = some (.int .u8 (wy : Int)) ∧ w'.cell? ⟨w.heap.size, 2, none⟩ = some (.int .i64 (li : Int)) ∧ w'.cell? ⟨w.heap.size, 3, none⟩ = some (.int .i64 (ri : Int)) ∧ w'.cell? ⟨w.heap.size, 4, none⟩ = some (.int .i64 (k : Int))) (first
        | exact ⟨d0, d1, d2, d3, d4⟩
        | exact ⟨e0, e1, e2, e3, e4⟩) (first
      | (go_at_call 40; refine (HP.out _ hbel.drew).mono ?_; rintro e w1 ⟨rfl, hb1⟩
         have e0 : w1.cell? ⟨w.heap.size, 0, none⟩ = some (Value.int IntKind.u8 ↑sg) := (hb1.cell (p := ⟨w.heap.size, 0, none⟩) hlt).trans d0
         have e1 : w1.cell? ⟨w.heap.size, 1, none⟩ = some (Value.int IntKind.u8 ↑wy) := (hb1.cell (p := ⟨w.heap.size, 1, none⟩) hlt).trans d1
         have e2 : w1.cell? ⟨w.heap.size, 2, none⟩ = some (Value.int IntKind.i64 ↑li) := (hb1.cell (p := ⟨w.heap.size, 2, none⟩) hlt).trans d2
         have e3 : w1.cell? ⟨w.heap.size, 3, none⟩ = some (Value.int IntKind.i64 ↑ri) := (hb1.cell (p := ⟨w.heap.size, 3, none⟩) hlt).trans d3
         have e4 : w1.cell? ⟨w.heap.size, 4, none⟩ = some (Value.int IntKind.i64 ↑k) := (hb1.cell (p := ⟨w.heap.size, 4, none⟩) hlt).trans d4
         have hbel1 : Below w.heap.size w w1 := hbel.drew.trans (hb1.mono hbel.size)))
    all_goals
      go_wp2_with fail
      go_ret
      exact ⟨rfl, hbel1⟩

end Go.Proofs.Ytcfbfdjmcabnkaa

namespace Go.Proofs.Ytcfbfdjmcabnkaa
open Go.RowKit Fw
open Go.Deep (BT)
set_option linter.unusedVariables false

theorem bin_facts {sg : Nat} (h : sg = 38 ∨ sg = 43) : ((sg : Int) == 33) = false ∧ (((sg : Int) == 38) = true ∨ (((sg : Int) == 38) = false ∧ ((sg : Int) == 43) = true)) := by
  rcases h with rfl | rfl <;> decide
theorem ur_facts {sg : Nat} (h : sg = 85 ∨ sg = 82) : ((sg : Int) == 33) = false ∧ ((sg : Int) == 38) = false ∧ ((sg : Int) == 43) = false ∧ ((sg : Int) == 88) = false ∧ (((sg : Int) == 85) = true ∨ (((sg : Int) == 85) = false ∧ ((sg : Int) == 82) = true)) := by
  rcases h with rfl | rfl <;> decide

theorem givesT_of {t : Fm} (h : TxAt t) {w : World} {i tb g cap : Nat} {ns : List Nd} (ht : Tn w tb g cap ns) (hr : Rep ns t i) (hl : (txt t).length ≤ 1000) : GivesT w tb i (bs (txt t)) :=
  fun w' hb => h i tb g cap ns w' (ht.below hb) hr hl

theorem cv_is {sg : Nat} (h : sg < 128) : CvIs sg (bs [b8 sg]) := by
  intro w
  rw [run_convert_int_string w 5 9 .u8 (sg : Int) (by rw [Try.underlying5]; rfl) Try.underlying9, enc_of sg h]

theorem txtwo_0 (tb sg li ri k : Nat) (L R T S1 S2 : ByteArray) (w : World) (HL : Hid (GivesT w tb li L)) (HR : Hid (GivesT w tb ri R))
    (hcv : ∀ w : World, (convert 5 9 (.int .u8 (sg : Int))).run Try.prog w = .ok (.string T) w)
    (s1 : ∀ w : World, (Op.stringOp .add L T).run Try.prog w = .ok (.string S1) w) (s2 : ∀ w : World, (Op.stringOp .add S1 R).run Try.prog w = .ok (.string S2) w) :
    Calls Try.prog 40 #[.pointer (some ⟨tb, 0, none⟩), .agg #[.int .u8 (sg : Int), .int .u8 0, .int .i64 (li : Int), .int .i64 (ri : Int), .int .i64 (k : Int)]] w fun e w' => e = .returned (.string S2) ∧ Below w.heap.size w w' :=
  txtwo_core tb sg 0 li ri k L R T S1 S2 w HL HR hcv s1 s2

theorem tx_any : ∀ (t : Fm), good t → TxAt t := by
  intro t
  induction t with
  | nil => intro h; exact absurd h (by simp [good])
  | node sg wy u l r ihl ihr =>
    intro h i tb g cap ns w ht hrep hlen
    cases u
    obtain ⟨li, ri, hnd, hl, hr⟩ := hrep
    have hat := ht.at hnd
    clear hnd
    rcases good_cases h with ⟨c, e, hc, hT⟩ | ⟨x, e, hx, hT⟩ | ⟨s, x, y, e, hs, hx, hy, hT⟩ | ⟨v, x, e, hv, hx, hT⟩ | ⟨s, v, x, y, e, hs, hv, hx, hy, hT⟩
    · injection e with e3 e0 _ e1 e2
      subst e3 e0 e1 e2
      rw [hT]
      exact tx_atom tb g cap _ i sg li ri _ w hc hat
    · injection e with e3 e0 _ e1 e2
      subst e3 e0 e1 e2
      rw [hT] at hlen ⊢
      simp only [List.length_cons] at hlen
      exact tx_not tb g cap _ i li ri _ (bs (txt l)) _ w hat (givesT_of (ihl hx) ht hl (by omega)) (sum_bs (a := [33]) (by simp; omega) rfl)
    · injection e with e3 e0 _ e1 e2
      subst e3 e0 e1 e2
      rw [hT] at hlen ⊢
      simp only [List.length_cons, List.length_append, List.length_nil] at hlen
      obtain ⟨f1, f2⟩ := bin_facts hs
      exact tx_bin tb g cap _ i sg li ri _ (bs ((txt l ++ [b8 sg]) ++ txt r)) (bs (40 :: ((txt l ++ [b8 sg]) ++ txt r))) _ w f1 f2 hat
        (fun W hb => txtwo_0 tb sg li ri _ (bs (txt l)) (bs (txt r)) (bs [b8 sg]) (bs (txt l ++ [b8 sg])) _ W ((givesT_of (ihl hx) ht hl (by omega)).later hb) ((givesT_of (ihr hy) ht hr (by omega)).later hb) (cv_is (by omega))
          (sum_bs (by simp; omega) rfl) (sum_bs (by simp; omega) rfl))
        (sum_bs (a := [40]) (by simp; omega) rfl) (sum_bs (b := [41]) (by simp; omega) (by simp))
    · injection e with e3 e0 _ e1 e2
      subst e3 e0 e1 e2
      rw [hT] at hlen ⊢
      simp only [List.length_cons] at hlen
      exact tx_x tb g cap _ i wy li ri _ (bs (txt l)) (bs [b8 wy]) (bs [b8 wy, 88]) _ w hat (givesT_of (ihl hx) ht hl (by omega)) (cv_is (by omega))
        (sum_bs (b := [88]) (by simp) rfl) (sum_bs (by simp; omega) rfl)
    · injection e with e3 e0 _ e1 e2
      subst e3 e0 e1 e2
      rw [hT] at hlen ⊢
      simp only [List.length_cons, List.length_append, List.length_nil] at hlen
      obtain ⟨f1, f2, f3, f4, f5⟩ := ur_facts hs
      exact tx_way tb g cap _ i sg wy li ri _ (bs ((txt l ++ [b8 sg]) ++ txt r)) (bs [b8 wy]) (bs [b8 wy, 91]) (bs ([b8 wy, 91] ++ ((txt l ++ [b8 sg]) ++ txt r))) _ w f1 f2 f3 f4 f5 hat
        (fun W hb => txtwo_core tb sg wy li ri _ (bs (txt l)) (bs (txt r)) (bs [b8 sg]) (bs (txt l ++ [b8 sg])) _ W ((givesT_of (ihl hx) ht hl (by omega)).later hb) ((givesT_of (ihr hy) ht hr (by omega)).later hb) (cv_is (by omega))
          (sum_bs (by simp; omega) rfl) (sum_bs (by simp; omega) rfl)) (cv_is (by omega))
        (sum_bs (b := [91]) (by simp) rfl) (sum_bs (by simp; omega) rfl) (sum_bs (b := [93]) (by simp; omega) (by simp))

theorem tn_new {w : World} {base n cap : Nat} {a : Option Addr} {ns : List Nd} (hown : w.ownsRow base 84 5 (.slice a n cap) ns.length (flatN ns)) (hl : 0 < ns.length) :
    ∃ g, a = some ⟨g, 0, none⟩ ∧ n = ns.length ∧ g < w.heap.size ∧ ∀ x y r, Tn (w.alloc (.cells #[x, y, .slice (some ⟨g, 0, none⟩) ns.length cap, r] 61)) w.heap.size g cap ns := by
  obtain ⟨g, cap2, hv, hb, hlt⟩ := hown.form hl
  injection hv with h1 h2 h3
  refine ⟨g, h1, h2, hlt, fun x y r => ⟨by simp, by simp; omega, by simp, ?_⟩⟩
  intro i z hz j u hu
  have hj : j < 5 := by
    have := (List.getElem?_eq_some_iff.1 hu).1
    simpa [five] using this
  have hc := hown.cells (g := g) (by rw [h1]; rfl) (i * 5 + j) u (by rw [flatN_get z ns i j hz hj]; exact hu)
  rw [World.cell?_of_block (w := w) (Below.heap_alloc w _ g hlt)]
  rw [Go.WideShapes.add_plain, Nat.zero_add] at hc
  exact hc

theorem md_new2 (w : World) (o : Obj) : Md ((w.alloc o).alloc (.cells #[.int .i64 0, .int .i64 0, .slice none 0 0, .int .i64 0] 61)) (w.heap.size + 1) (.slice none 0 0) [] := by
  have hh : ((w.alloc o).alloc (.cells #[.int .i64 0, .int .i64 0, .slice none 0 0, .int .i64 0] 61)).heap[w.heap.size + 1]? = some (.cells #[.int .i64 0, .int .i64 0, .slice none 0 0, .int .i64 0] 61) := by
    have := heap_alloc_new (w.alloc o) (.cells #[.int .i64 0, .int .i64 0, .slice none 0 0, .int .i64 0] 61)
    simpa using this
  refine ⟨by simp, ?_, ?_, ?_, ?_, fun o ho => frozen_of_row _ _ _ _ _ hh, World.ownsRow_nil _ _ _ _⟩
  all_goals rw [cell_of_row _ _ _ _ _ _ hh]; rfl

set_option maxRecDepth 100000 in
set_option maxHeartbeats 1000000 in
/-- the program's pushing of a whole tree -/
theorem pushedP (t : Fm) (ht : good t) (i tb g cap : Nat) (ns : List Nd) (w : World) (hl : (txt t).length ≤ 60) (HT : Hid (Tn w tb g cap ns)) (HR : Hid (Rep ns t i)) (c3 : w.cell? ⟨tb, 3, none⟩ = some (.int .i64 (i : Int))) :
    Calls Try.prog 30 #[.pointer (some ⟨tb, 0, none⟩)] w fun e w' => Below w.heap.size w w' ∧ ∃ (v : Value) (ms : List Nd) (k : Nat), e = .returned (.agg #[.int .i64 0, .int .i64 0, v, .int .i64 (k : Int)]) ∧
      w'.ownsRow (w.heap.size + 2) 84 5 v ms.length (flatN ms) ∧ Rep ms (pushT t false) k ∧ ms.length ≤ (push t false).length ∧ (anyA ms ↔ txtA (push t false)) := by
  have hpl := push_len t ht false
  have lt := HT.out.lt
  have glt := HT.out.glt
  have HG : Hid (good t) := ht
  go_enter Try.func30, Try.ntmps30
  go_wp2_with fail
  refine (pi_any t HG.out i tb g cap ns (w.heap.size + 1) false HR.out _ (.slice none 0 0) [] ⟨HT.out.below (((Below.refl _ _).alloc (Nat.le_refl _) _).alloc (by simp) _), md_new2 w _, by omega, by omega, by simp [Value.ownBlock], by simp [Value.ownBlock]⟩ (by simp; omega)).mono ?_
  rintro e w1 ⟨k, v, ms, rfl, hmd, hkp, hrep, hlen, hA⟩
  rw [List.nil_append] at hmd hrep
  have hb1 : Below (w.heap.size + 1) _ w1 := kp_below hkp (by simp)
  have HB1 : Hid (Below w.heap.size w w1) := (((Below.refl _ _).alloc (Nat.le_refl _) _).alloc (by simp) _).trans (hb1.mono (by omega))
  have r0 : w1.cell? ⟨w.heap.size, 0, none⟩ = some (.int .i64 0) := by rw [hb1.cell (p := ⟨w.heap.size, 0, none⟩) (by simp)]; simp
  have r1 : w1.cell? ⟨w.heap.size, 1, none⟩ = some (.int .i64 0) := by rw [hb1.cell (p := ⟨w.heap.size, 1, none⟩) (by simp)]; simp
  have r2 : w1.cell? ⟨w.heap.size, 2, none⟩ = some (.slice none 0 0) := by rw [hb1.cell (p := ⟨w.heap.size, 2, none⟩) (by simp)]; simp
  have r3 : w1.cell? ⟨w.heap.size, 3, none⟩ = some (.int .i64 0) := by rw [hb1.cell (p := ⟨w.heap.size, 3, none⟩) (by simp)]; simp
  have rz : ∀ o, w1.frozen? ⟨w.heap.size, o, none⟩ = false := by
    intro o
    rw [hb1.frozen (p := ⟨w.heap.size, o, none⟩) (by simp)]
    exact frozen_of_row _ _ _ _ _ (heap_alloc2_old w _ _)
  have z0 := rz 0
  have z1 := rz 1
  have z2 := rz 2
  have z3 := rz 3
  obtain ⟨mlt, m0, m1, m2, m3, mz, mown⟩ := hmd
  have y3 := mz 3 (by omega)
  have HOWN : Hid (w1.ownsRow (w.heap.size + 1 + 1) 84 5 v ms.length (flatN ms)) := mown
  have HX : Hid (Rep ms (pushT t false) k ∧ ms.length ≤ (push t false).length ∧ (anyA ms ↔ txtA (push t false))) := ⟨hrep, hlen, hA⟩
  have HF : Hid (∃ a cap, v = .slice a ms.length cap) := by
    rcases mown.2 with ⟨h1, h2⟩ | ⟨g, cap, cur, h1, _⟩
    · exact ⟨none, 0, by rw [h1, h2]⟩
    · exact ⟨_, _, h1⟩
  clear hb1 hkp rz mz mown hrep hlen hA
  obtain ⟨a, cap2, rfl⟩ := HF.out
  go_wp2_with fail
  exact bodyPost_ret (v := .agg #[.int .i64 0, .int .i64 0, .slice a ms.length cap2, .int .i64 (k : Int)]) (by simp [results, Try.results30, go_sem, r0, r1, r2, r3]) rfl ⟨set4 (HB1.out.setCell (p := ⟨w.heap.size + 1, 3, none⟩) (by simp) _), _, ms, k, rfl, own4 (ownsRow_setCell_below HOWN.out (by simp) _), HX.out⟩

end Go.Proofs.Ytcfbfdjmcabnkaa

namespace Go.Proofs.Ytcfbfdjmcabnkaa
open Go.RowKit Fw
open Go.Deep (BT)
set_option linter.unusedVariables false

/-- P5's text, of any text -/
def pshAll (s : ByteArray) : ByteArray := if (frmAll s).1 = 0 then bs (push (ptAll s).2.2 false) else ⟨#[]⟩

/-- what loadFormula answers, of any text -/
theorem loadFormula_tree (s : ByteArray) (w : World) :
    Calls Try.prog 29 #[.string s] w fun e w' => Below w.heap.size w w' ∧ ∃ (a : Option Addr) (n cap : Nat) (r : Int), e = .returned (.agg #[.int .i64 ((frmAll s).1 : Nat), .int .i64 ((frmAll s).2 : Nat), .slice a n cap, .int .i64 r]) ∧
      ((frmAll s).1 = 0 → s.size ≤ 30 ∧ ∃ ns, ∃ i : Nat, r = (i : Int) ∧ w'.ownsRow (w.heap.size + 2) 84 5 (.slice a n cap) ns.length (flatN ns) ∧ Rep ns (ptAll s).2.2 i ∧ good (ptAll s).2.2 ∧ s.data.toList = txt (ptAll s).2.2 ∧ Clo ns ∧ ns.length ≤ 30) := by
  by_cases hs : s.size ≤ 30
  · refine (loadFormula_any s w hs).mono ?_
    have e0 : frmAll s = frm s := if_pos hs
    rintro e w' ⟨hb, ⟨h1, rfl⟩ | ⟨h1, h2, h3, rfl⟩ | ⟨h1, h2, h3, v, ns, i, rfl, hown, hrep, hclo, hnl⟩⟩
    · exact ⟨hb, _, _, _, _, by rw [e0, frm_bad h1]; rfl, by rw [e0, frm_bad h1]; intro h; simp at h⟩
    · exact ⟨hb, _, _, _, _, by rw [e0, frm_deep h1 h2 h3]; rfl, by rw [e0, frm_deep h1 h2 h3]; intro h; simp at h⟩
    · obtain ⟨a, cap, rfl⟩ : ∃ a cap, v = .slice a ns.length cap := by
        rcases hown.2 with ⟨q1, q2⟩ | ⟨g, cap, cur, q1, _⟩
        · exact ⟨none, 0, by rw [q1, q2]⟩
        · exact ⟨_, _, q1⟩
      refine ⟨hb, a, ns.length, cap, i, by rw [e0, frm_good h1 h2 h3]; rfl, fun _ => ⟨hs, ns, i, rfl, hown, hrep, ?_⟩⟩
      have hp := pt_sound (s.size + 1) (tl s 0) h1
      refine ⟨hp.2, ?_, hclo, hnl⟩
      have e1 := hp.1
      have h2' : (pt (s.size + 1) (tl s 0)).2.1 = [] := h2
      rw [h2', List.append_nil, tl0] at e1
      rw [e1]
      show txt (pt (s.size + 1) s.data.toList).2.2 = txt (pt (s.size + 1) (tl s 0)).2.2
      rw [tl0]
  · refine (loadFormula_long s w hs).mono ?_
    rintro e w' ⟨rfl, hb⟩
    have e0 : frmAll s = (1, 0) := if_neg hs
    exact ⟨hb, _, _, _, _, by rw [e0]; rfl, by rw [e0]; intro h; simp at h⟩

set_option maxRecDepth 100000 in
set_option maxHeartbeats 1000000 in
theorem push_all (s : ByteArray) (w : World) :
    Calls Try.prog 19 #[.string s] w fun e w' => e = .returned (.tuple #[.string (pshAll s), .int .i64 ((frmAll s).1 : Nat)]) ∧ Below w.heap.size w w' := by
  by_cases h0 : (frmAll s).1 = 0
  · have HP : Hid (pshAll s = bs (push (ptAll s).2.2 false)) := if_pos h0
    have H0 : Hid ((frmAll s).1 = 0) := h0
    go_enter Try.func19, Try.ntmps19
    go_wp2_with fail
    refine (loadFormula_tree s _).mono ?_
    rintro e w1 ⟨hb1, a, n, cap, r, rfl, hh⟩
    obtain ⟨hs, ns, i, rfl, hown, hrep, hg, ht, _⟩ := hh h0
    obtain ⟨t, hteq⟩ : ∃ t, t = (ptAll s).2.2 := ⟨_, rfl⟩
    rw [← hteq] at hrep hg ht HP
    obtain ⟨g, rfl, rfl, _, htn⟩ := tn_new hown (by have := (hrep.lt hg).1; omega)
    have hz := size_of ht
    have HC : Hid (∀ x y, Calls Try.prog 30 #[.pointer (some ⟨w1.heap.size, 0, none⟩)] (w1.alloc (.cells #[x, y, .slice (some ⟨g, 0, none⟩) ns.length cap, .int .i64 (i : Int)] 61)) fun e w' => Below (w1.heap.size + 1) (w1.alloc (.cells #[x, y, .slice (some ⟨g, 0, none⟩) ns.length cap, .int .i64 (i : Int)] 61)) w' ∧
        ∃ (v : Value) (ms : List Nd) (k : Nat), e = .returned (.agg #[.int .i64 0, .int .i64 0, v, .int .i64 (k : Int)]) ∧ ∃ b, w'.ownsRow b 84 5 v ms.length (flatN ms) ∧ Rep ms (pushT t false) k) := by
      intro x y
      refine (pushedP t hg i w1.heap.size g cap ns _ (by omega) (htn x y _) hrep (by simp)).mono ?_
      rintro e w' ⟨h1, v, ms, k, h2, h3, h4, _⟩
      exact ⟨by simpa using h1, v, ms, k, h2, _, h3, h4⟩
    have HG : Hid (good (pushT t false) ∧ txt (pushT t false) = push t false ∧ (push t false).length ≤ 1000) := ⟨(pushT_is t hg false).2.1, (pushT_is t hg false).1, by have := push_len t hg false; omega⟩
    rw [h0]
    have hsz := hb1.size
    clear h0 hh hown hrep hg ht htn hteq hz
    go_wp2_with fail
    refine (HC.out _ _).mono ?_
    rintro e w2 ⟨hb2, v, ms, k, rfl, b, hown, hrep⟩
    obtain ⟨a2, cap2, rfl⟩ : ∃ a cap, v = .slice a ms.length cap := by
      rcases hown.2 with ⟨h1, h2⟩ | ⟨g, cap, cur, h1, _⟩
      · exact ⟨none, 0, by rw [h1, h2]⟩
      · exact ⟨_, _, h1⟩
    obtain ⟨g2, rfl, _, _, htn⟩ := tn_new hown (by have := (hrep.lt HG.out.1).1; omega)
    have HC2 : Hid (∀ x y r, Calls Try.prog 31 #[.pointer (some ⟨w2.heap.size, 0, none⟩), .int .i64 (k : Int)] (w2.alloc (.cells #[x, y, .slice (some ⟨g2, 0, none⟩) ms.length cap2, r] 61)) fun e w' => e = .returned (.string (bs (push t false))) ∧ Below (w2.heap.size + 1) (w2.alloc (.cells #[x, y, .slice (some ⟨g2, 0, none⟩) ms.length cap2, r] 61)) w') := by
      intro x y r
      have := tx_any (pushT t false) HG.out.1 k w2.heap.size g2 cap2 ms _ (htn x y r) hrep (by rw [HG.out.2.1]; exact HG.out.2.2)
      rw [HG.out.2.1] at this
      refine this.mono ?_
      rintro e w' ⟨h1, h2⟩
      exact ⟨h1, by simpa using h2⟩
    have hsz2 := hb2.size
    have HBB : Hid (Below w.heap.size w w2) := (hb1.alloc hsz _).trans (hb2.mono (by omega))
    clear hown hrep htn hb2 hb1
    go_wp2_with fail
    refine (HC2.out _ _ _).mono ?_
    rintro e w3 ⟨rfl, hb3⟩
    go_wp2_with fail
    go_ret2
    exact ⟨by rw [HP.out, H0.out]; rfl, (HBB.out.alloc HBB.out.size _).trans (hb3.mono (by have := HBB.out.size; omega))⟩
  · have HP : Hid (pshAll s = ⟨#[]⟩) := if_neg h0
    have hne : (((frmAll s).1 : Int) != 0) = true := by rw [bne_iff_ne]; omega
    go_enter Try.func19, Try.ntmps19
    go_wp2_with fail
    refine (loadFormula_all s _).mono ?_
    rintro e w1 ⟨hb1, a, n, cap, r, rfl, _⟩
    have hsz := hb1.size
    go_wp2_with fail
    go_quiet (fail)
    go_wp2
    go_ret2
    exact ⟨by rw [HP.out]; rfl, below_drewN (hb1.alloc hsz _) _⟩

theorem bytes_beq (a : ByteArray) : (a.toList == a.toList) = true := by simp

end Go.Proofs.Ytcfbfdjmcabnkaa

