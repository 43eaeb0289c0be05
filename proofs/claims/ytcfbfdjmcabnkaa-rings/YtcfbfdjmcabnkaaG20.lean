import Derived.Deep.RegionHeld3
import Derived.Test.YtcfbfdjmcabnkaaG16
import Derived.Test.YtcfbfdjmcabnkaaG15
namespace Go.Proofs.Ytcfbfdjmcabnkaa
open Go.RowKit Fw
set_option linter.unusedVariables false

theorem wf64 {x : Int} (h : (Lit.int .i64 x).wf = true) : -9223372036854775808 ≤ x ∧ x ≤ 9223372036854775807 := by
  simpa [Lit.wf, IntKind.min, IntKind.max, IntKind.signed, IntKind.bits] using h

set_option maxRecDepth 100000 in
set_option maxHeartbeats 1000000 in
theorem pick_is (c : Int) (n : Nat) (w : World) (hc : (Lit.int .i64 c).wf = true) (hn : 0 < n) (hn2 : n ≤ 1073741824) :
    Calls Try.prog 14 #[.int .i64 c, .int .i64 (n : Int)] w fun e w' => (∃ m : Nat, m < n ∧ e = .returned (.int .i64 (m : Int))) ∧ w' = w := by
  obtain ⟨h1, h2⟩ := wf64 hc
  have hn0 : ((n : Int) == 0) = false := by rw [beq_eq_false_iff_ne]; omega
  by_cases h : c < 0
  · have e1 : -(c + 1).tmod (n : Int) = (-(c + 1)) % (n : Int) := by
      rw [← Int.neg_tmod, Int.tmod_eq_emod_of_nonneg (by omega)]
    have e2 := Int.emod_nonneg (-(c + 1)) (show (n : Int) ≠ 0 by omega)
    have e3 := Int.emod_lt_of_pos (-(c + 1)) (show (0 : Int) < (n : Int) by omega)
    have HE : Hid (-(c + 1).tmod (n : Int) = (-(c + 1)) % (n : Int)) := e1
    clear e1
    go_enter Try.func14, Try.ntmps14
    go_wp2_with fail
    go_ret
    refine ⟨⟨((-(c + 1)) % (n : Int)).toNat, by omega, ?_⟩, rfl⟩
    show Ending.returned (Value.int IntKind.i64 (-(c + 1).tmod (n : Int))) = _
    rw [HE.out, Int.toNat_of_nonneg e2]
  · have e2 := Int.emod_nonneg c (show (n : Int) ≠ 0 by omega)
    have e3 := Int.emod_lt_of_pos c (show (0 : Int) < (n : Int) by omega)
    go_enter Try.func14, Try.ntmps14
    go_wp2_with fail
    go_ret
    refine ⟨⟨(c % (n : Int)).toNat, by omega, ?_⟩, rfl⟩
    show Ending.returned (Value.int IntKind.i64 (c % (n : Int))) = _
    rw [Int.toNat_of_nonneg e2]

theorem pick_30 (c : Int) (w : World) (hc : (Lit.int .i64 c).wf = true) :
    Calls Try.prog 14 #[.int .i64 c, .int .i64 1073741824] w fun e w' => (∃ m : Nat, m < 1073741824 ∧ e = .returned (.int .i64 (m : Int))) ∧ w' = w := pick_is c 1073741824 w hc (by omega) (by omega)
theorem pick_6 (c : Int) (w : World) (hc : (Lit.int .i64 c).wf = true) :
    Calls Try.prog 14 #[.int .i64 c, .int .i64 6] w fun e w' => (∃ m : Nat, m < 6 ∧ e = .returned (.int .i64 (m : Int))) ∧ w' = w := pick_is c 6 w hc (by omega) (by omega)
theorem pick_3 (c : Int) (w : World) (hc : (Lit.int .i64 c).wf = true) :
    Calls Try.prog 14 #[.int .i64 c, .int .i64 3] w fun e w' => (∃ m : Nat, m < 3 ∧ e = .returned (.int .i64 (m : Int))) ∧ w' = w := pick_is c 3 w hc (by omega) (by omega)

set_option maxRecDepth 100000 in
set_option maxHeartbeats 1000000 in
theorem bit_is (c : Int) (k : Nat) (w : World) (hc : (Lit.int .i64 c).wf = true) (hk : k < 6) :
    Calls Try.prog 26 #[.int .i64 c, .int .i64 (k : Int)] w fun e w' => (∃ b : Bool, e = .returned (.bool b)) ∧ w' = w := by
  have HP := fun W => pick_30 c W hc
  obtain rfl | rfl | rfl | rfl | rfl | rfl : k = 0 ∨ k = 1 ∨ k = 2 ∨ k = 3 ∨ k = 4 ∨ k = 5 := by omega
  all_goals
    go_enter Try.func26, Try.ntmps26
    go_wp2_with (go_at_call 14; refine (HP _).mono ?_; rintro e w1 ⟨⟨m, hm, rfl⟩, rfl⟩)
    go_ret
    exact ⟨⟨_, rfl⟩, rfl⟩

end Go.Proofs.Ytcfbfdjmcabnkaa

namespace Go.Proofs.Ytcfbfdjmcabnkaa
open Go.RowKit Fw
set_option linter.unusedVariables false

theorem Try.size30 : (Try.prog.info? 30).map (·.size) = some 55 := by kernel_rfl
theorem Try.row30 : ∃ d, Try.prog.underlying 30 = some d ∧ d.isRow = true := ⟨_, Try.underlying30, rfl⟩

/-- a plan as cells -/
def planCells (n : Nat) (mk ed : Nat → Nat → Bool) : List Value := .int .i64 (n : Int) :: (((List.range 18).map fun k => .bool (mk (k / 3) (k % 3))) ++ ((List.range 36).map fun k => .bool (ed (k / 6) (k % 6))))
theorem planCells_len (n : Nat) (mk ed : Nat → Nat → Bool) : (planCells n mk ed).length = 55 := by simp [planCells]
theorem planCells_one (n : Nat) (mk ed : Nat → Nat → Bool) : (planCells n mk ed).toArray.all (·.oneCell') = true := by
  refine all_oneCell_toArray fun v hv => ?_
  simp only [planCells, List.mem_cons, List.mem_append, List.mem_map] at hv
  rcases hv with rfl | ⟨k, _, rfl⟩ | ⟨k, _, rfl⟩ <;> rfl
theorem planCells_mark (n : Nat) (mk ed : Nat → Nat → Bool) (i k : Nat) (hi : i < 6) (hk : k < 3) : (planCells n mk ed)[1 + i * 3 + k]? = some (.bool (mk i k)) := by
  unfold planCells
  rw [show 1 + i * 3 + k = (i * 3 + k) + 1 from by omega, List.getElem?_cons_succ, List.getElem?_append_left (by simp; omega), List.getElem?_map, List.getElem?_range (by omega)]
  simp only [Option.map_some]
  rw [show (i * 3 + k) / 3 = i from by omega, show (i * 3 + k) % 3 = k from by omega]
theorem planCells_edge (n : Nat) (mk ed : Nat → Nat → Bool) (i j : Nat) (hi : i < 6) (hj : j < 6) : (planCells n mk ed)[19 + i * 6 + j]? = some (.bool (ed i j)) := by
  unfold planCells
  rw [show 19 + i * 6 + j = (18 + (i * 6 + j)) + 1 from by omega, List.getElem?_cons_succ, List.getElem?_append_right (by simp), List.getElem?_map]
  simp only [List.length_map, List.length_range]
  rw [show 18 + (i * 6 + j) - 18 = i * 6 + j from by omega, List.getElem?_range (by omega)]
  simp only [Option.map_some]
  rw [show (i * 6 + j) / 6 = i from by omega, show (i * 6 + j) % 6 = j from by omega]

/-- block b is a plan -/
structure Pl (w : World) (b n : Nat) (mk ed : Nat → Nat → Bool) : Prop where
  lt : b < w.heap.size
  cn : w.cell? ⟨b, 0, none⟩ = some (.int .i64 (n : Int))
  cm : ∀ i k, i < 6 → k < 3 → w.cell? ⟨b, 1 + i * 3 + k, none⟩ = some (.bool (mk i k))
  ce : ∀ i j, i < 6 → j < 6 → w.cell? ⟨b, 19 + i * 6 + j, none⟩ = some (.bool (ed i j))
  fz : ∀ o, w.frozen? ⟨b, o, none⟩ = false

theorem Pl.below {w w' : World} {B b n : Nat} {mk ed : Nat → Nat → Bool} (h : Pl w b n mk ed) (hb : Below B w w') (hk : b < B) : Pl w' b n mk ed :=
  ⟨Nat.lt_of_lt_of_le h.lt hb.size, (hb.cell (p := ⟨b, 0, none⟩) hk).trans h.cn, fun i k hi hk' => (hb.cell (p := ⟨b, 1 + i * 3 + k, none⟩) hk).trans (h.cm i k hi hk'), fun i j hi hj => (hb.cell (p := ⟨b, 19 + i * 6 + j, none⟩) hk).trans (h.ce i j hi hj), fun o => (hb.frozen (p := ⟨b, o, none⟩) hk).trans (h.fz o)⟩
theorem Pl.drew {w : World} {b n : Nat} {mk ed : Nat → Nat → Bool} (h : Pl w b n mk ed) : Pl w.drew b n mk ed := ⟨h.lt, h.cn, h.cm, h.ce, h.fz⟩
theorem Pl.range {w : World} {b n : Nat} {mk ed : Nat → Nat → Bool} (h : Pl w b n mk ed) : w.rangeAt b 0 (planCells n mk ed) := by
  intro j v hv
  rw [Nat.zero_add]
  have hj := (List.getElem?_eq_some_iff.1 hv).1
  rw [planCells_len] at hj
  rcases Nat.lt_or_ge j 1 with h0 | h0
  · obtain rfl : j = 0 := by omega
    simp only [planCells, List.getElem?_cons_zero, Option.some.injEq] at hv
    rw [← hv]
    exact h.cn
  · rcases Nat.lt_or_ge j 19 with h1 | h1
    · rw [show j = 1 + (j - 1) / 3 * 3 + (j - 1) % 3 from by omega, planCells_mark _ _ _ _ _ (by omega) (by omega)] at hv
      have := h.cm ((j - 1) / 3) ((j - 1) % 3) (by omega) (by omega)
      rw [show 1 + (j - 1) / 3 * 3 + (j - 1) % 3 = j from by omega] at this
      rw [this]; exact hv
    · rw [show j = 19 + (j - 19) / 6 * 6 + (j - 19) % 6 from by omega, planCells_edge _ _ _ _ _ (by omega) (by omega)] at hv
      have := h.ce ((j - 19) / 6) ((j - 19) % 6) (by omega) (by omega)
      rw [show 19 + (j - 19) / 6 * 6 + (j - 19) % 6 = j from by omega] at this
      rw [this]; exact hv
theorem pl_of_range {w : World} {b n : Nat} {mk ed : Nat → Nat → Bool} (lt : b < w.heap.size) (h : w.rangeAt b 0 (planCells n mk ed)) (fz : ∀ o, w.frozen? ⟨b, o, none⟩ = false) : Pl w b n mk ed := by
  refine ⟨lt, ?_, fun i k hi hk => ?_, fun i j hi hj => ?_, fz⟩
  · have := h 0 _ rfl
    exact this
  · have := h _ _ (planCells_mark n mk ed i k hi hk)
    rw [Nat.zero_add] at this
    exact this
  · have := h _ _ (planCells_edge n mk ed i j hi hj)
    rw [Nat.zero_add] at this
    exact this
theorem Pl.mark {w : World} {b n : Nat} {mk ed : Nat → Nat → Bool} (h : Pl w b n mk ed) (i k : Nat) (hi : i < 6) (hk : k < 3) (v : Bool) : Pl (w.setCell ⟨b, 1 + i * 3 + k, none⟩ (.bool v)) b n (fun x y => if x = i ∧ y = k then v else mk x y) ed := by
  refine ⟨by simpa using h.lt, ?_, fun x y hx hy => ?_, fun x y hx hy => ?_, fun o => ?_⟩
  · rw [cell_otherS (addrS (by omega))]; exact h.cn
  · by_cases e : x = i ∧ y = k
    · obtain ⟨rfl, rfl⟩ := e
      rw [cell_sameS (h.cm x y hx hy), if_pos ⟨rfl, rfl⟩]
    · rw [cell_otherS (addrS (by omega)), if_neg e]; exact h.cm x y hx hy
  · rw [cell_otherS (addrS (by omega))]; exact h.ce x y hx hy
  · rw [World.frozen?_setCell]; exact h.fz o
theorem Pl.edge {w : World} {b n : Nat} {mk ed : Nat → Nat → Bool} (h : Pl w b n mk ed) (i k : Nat) (hi : i < 6) (hk : k < 6) (v : Bool) : Pl (w.setCell ⟨b, 19 + i * 6 + k, none⟩ (.bool v)) b n mk (fun x y => if x = i ∧ y = k then v else ed x y) := by
  refine ⟨by simpa using h.lt, ?_, fun x y hx hy => ?_, fun x y hx hy => ?_, fun o => ?_⟩
  · rw [cell_otherS (addrS (by omega))]; exact h.cn
  · rw [cell_otherS (addrS (by omega))]; exact h.cm x y hx hy
  · by_cases e : x = i ∧ y = k
    · obtain ⟨rfl, rfl⟩ := e
      rw [cell_sameS (h.ce x y hx hy), if_pos ⟨rfl, rfl⟩]
    · rw [cell_otherS (addrS (by omega)), if_neg e]; exact h.ce x y hx hy
  · rw [World.frozen?_setCell]; exact h.fz o
theorem pl_new (w : World) (n : Nat) (mk ed : Nat → Nat → Bool) (t : TypeId) (C : Array Value) (hC : C = (planCells n mk ed).toArray) : Pl (w.alloc (.cells C t)) w.heap.size n mk ed := by
  subst hC
  have hb := heap_alloc_new w (.cells (planCells n mk ed).toArray t)
  refine pl_of_range (by simp) (fun j v hv => ?_) (fun o => frozen_of_row _ _ _ _ _ hb)
  rw [Nat.zero_add, cell_of_row _ _ _ _ _ _ hb, List.getElem?_toArray]
  exact hv
theorem Pl.there {w : World} {b n : Nat} {mk ed : Nat → Nat → Bool} (h : Pl w b n mk ed) : w.there b 0 55 := by
  intro j hj
  have hlt : j < (planCells n mk ed).length := by rw [planCells_len]; exact hj
  refine ⟨?_, h.fz _⟩
  rw [h.range j _ (List.getElem?_eq_getElem hlt)]
  rfl

theorem built33 (n : Int) : Try.prog.built 30 [(0, .int .i64 n)] = some (.int .i64 n :: (List.replicate 54 (.bool false))).toArray := by kernel_rfl
theorem zero_plan (n : Nat) : (.int .i64 (n : Int) :: (List.replicate 54 (.bool false))) = planCells n (fun _ _ => false) (fun _ _ => false) := by rfl
theorem build33 {ops : Array Oper} {rest : List Oper} {o : Oper} {a : Act} {w : World} {Q : Exit → Act → World → Prop} (hgd : o.guard = none) (x : Operand) (ho : o.op = .build 30 #[(0, x)])
    (n : Nat) (e : Int) (he : e = (n : Int)) (hx : a.eval x = .int .i64 e)
    (h : wpList Try.prog ops Q rest (a.put o.dst (.agg (planCells n (fun _ _ => false) (fun _ _ => false)).toArray)) w) : wpList Try.prog ops Q (o :: rest) a w := by
  have hv : ((#[(0, x)] : Array (Nat × Operand)).map fun (i, x) => (i, a.eval x)).toList = [(0, .int .i64 (n : Int))] := by simp [hx, he]
  refine wpList_build hgd 30 #[(0, x)] ho (by rw [hv, built33]; rfl) ?_
  rw [hv, built33, zero_plan]
  exact h

/-- a row of ints, or none -/
def IsInts (w : World) (a : Option Addr) (len : Nat) : Prop :=
  len = 0 ∨ ∃ b off, a = some ⟨b, off, none⟩ ∧ b < w.heap.size ∧ ∀ i, i < len → ∃ x : Int, (Lit.int .i64 x).wf = true ∧ w.cell? ⟨b, off + i, none⟩ = some (.int .i64 x)
theorem IsInts.below {w w' : World} {a : Option Addr} {len : Nat} (h : IsInts w a len) (hb : Below w.heap.size w w') : IsInts w' a len := by
  rcases h with h | ⟨b, off, h1, h2, h3⟩
  · exact .inl h
  · refine .inr ⟨b, off, h1, Nat.lt_of_lt_of_le h2 hb.size, fun i hi => ?_⟩
    obtain ⟨x, hx, hc⟩ := h3 i hi
    exact ⟨x, hx, (hb.cell (p := ⟨b, off + i, none⟩) h2).trans hc⟩

end Go.Proofs.Ytcfbfdjmcabnkaa

namespace Go.Proofs.Ytcfbfdjmcabnkaa
open Go.RowKit Fw
set_option linter.unusedVariables false

/-- what stands while a plan is made -/
structure PI (w wr : World) (n : Nat) (a1 a2 : Option Addr) (l1 c1 l2 c2 : Nat) : Prop where
  bel : Below w.heap.size w wr
  s1 : wr.cell? ⟨w.heap.size, 1, none⟩ = some (.slice a1 l1 c1)
  s2 : wr.cell? ⟨w.heap.size, 2, none⟩ = some (.slice a2 l2 c2)
  th : wr.there (w.heap.size + 1) 0 55
  pl : ∃ mk ed, Pl wr (w.heap.size + 1 + 1) n mk ed

theorem PI.cn {w wr : World} {n : Nat} {a1 a2 : Option Addr} {l1 c1 l2 c2 : Nat} (h : PI w wr n a1 a2 l1 c1 l2 c2) : wr.cell? ⟨w.heap.size + 1 + 1, 0, none⟩ = some (.int .i64 (n : Int)) := by
  obtain ⟨mk, ed, hp⟩ := h.pl
  exact hp.cn
theorem PI.set {w wr : World} {n : Nat} {a1 a2 : Option Addr} {l1 c1 l2 c2 : Nat} (h : PI w wr n a1 a2 l1 c1 l2 c2) (o : Nat) (v : Value) (hp : ∃ mk ed, Pl (wr.setCell ⟨w.heap.size + 1 + 1, o, none⟩ v) (w.heap.size + 1 + 1) n mk ed) : Hid (PI w (wr.setCell ⟨w.heap.size + 1 + 1, o, none⟩ v).drew n a1 a2 l1 c1 l2 c2) := by
  refine ⟨(h.bel.setCell (by simp; omega) _).drew, ?_, ?_, ?_, ?_⟩
  · exact (cell_otherS (addrB (by omega))).trans h.s1
  · exact (cell_otherS (addrB (by omega))).trans h.s2
  · intro j hj
    have := h.th j hj
    refine ⟨?_, ?_⟩
    · have e : (wr.setCell ⟨w.heap.size + 1 + 1, o, none⟩ v).cell? ⟨w.heap.size + 1, 0 + j, none⟩ = wr.cell? ⟨w.heap.size + 1, 0 + j, none⟩ := cell_otherS (addrB (by omega))
      show ((wr.setCell ⟨w.heap.size + 1 + 1, o, none⟩ v).cell? ⟨w.heap.size + 1, 0 + j, none⟩).isSome = true
      rw [e]; exact this.1
    · show (wr.setCell ⟨w.heap.size + 1 + 1, o, none⟩ v).frozen? ⟨w.heap.size + 1, 0 + j, none⟩ = false
      rw [World.frozen?_setCell]; exact this.2
  · obtain ⟨mk, ed, hp⟩ := hp
    exact ⟨mk, ed, hp.drew⟩
theorem PI.mark {w wr : World} {n : Nat} {a1 a2 : Option Addr} {l1 c1 l2 c2 : Nat} (h : PI w wr n a1 a2 l1 c1 l2 c2) (i k : Nat) (hi : i < 6) (hk : k < 3) (v : Bool) : Hid (PI w (wr.setCell ⟨w.heap.size + 1 + 1, 1 + i * 3 + k, none⟩ (.bool v)).drew n a1 a2 l1 c1 l2 c2) := by
  obtain ⟨mk, ed, hp⟩ := h.pl
  exact h.set _ _ ⟨_, _, hp.mark i k hi hk v⟩
theorem PI.edge {w wr : World} {n : Nat} {a1 a2 : Option Addr} {l1 c1 l2 c2 : Nat} (h : PI w wr n a1 a2 l1 c1 l2 c2) (i k : Nat) (hi : i < 6) (hk : k < 6) (v : Bool) : Hid (PI w (wr.setCell ⟨w.heap.size + 1 + 1, 19 + i * 6 + k, none⟩ (.bool v)).drew n a1 a2 l1 c1 l2 c2) := by
  obtain ⟨mk, ed, hp⟩ := h.pl
  exact h.set _ _ ⟨_, _, hp.edge i k hi hk v⟩
theorem PI.there {w wr : World} {n : Nat} {a1 a2 : Option Addr} {l1 c1 l2 c2 : Nat} (h : PI w wr n a1 a2 l1 c1 l2 c2) (i k : Nat) : True := trivial
theorem PI.cm {w wr : World} {n : Nat} {a1 a2 : Option Addr} {l1 c1 l2 c2 : Nat} (h : PI w wr n a1 a2 l1 c1 l2 c2) (i k : Nat) (hi : i < 6) (hk : k < 3) : (∃ v, wr.cell? ⟨w.heap.size + 1 + 1, 1 + i * 3 + k, none⟩ = some v) ∧ wr.frozen? ⟨w.heap.size + 1 + 1, 1 + i * 3 + k, none⟩ = false := by
  obtain ⟨mk, ed, hp⟩ := h.pl
  exact ⟨⟨_, hp.cm i k hi hk⟩, hp.fz _⟩
theorem PI.ce {w wr : World} {n : Nat} {a1 a2 : Option Addr} {l1 c1 l2 c2 : Nat} (h : PI w wr n a1 a2 l1 c1 l2 c2) (i k : Nat) (hi : i < 6) (hk : k < 6) : (∃ v, wr.cell? ⟨w.heap.size + 1 + 1, 19 + i * 6 + k, none⟩ = some v) ∧ wr.frozen? ⟨w.heap.size + 1 + 1, 19 + i * 6 + k, none⟩ = false := by
  obtain ⟨mk, ed, hp⟩ := h.pl
  exact ⟨⟨_, hp.ce i k hi hk⟩, hp.fz _⟩

theorem ints_at {w : World} {a : Option Addr} {len : Nat} (h : IsInts w a len) : ∀ i, i < len → ∃ (b0 o0 : Nat) (x : Int), (Lit.int .i64 x).wf = true ∧ a = some ⟨b0, o0, none⟩ ∧ b0 < w.heap.size ∧ w.cell? ⟨b0, o0 + i, none⟩ = some (.int .i64 x) := by
  intro i hi
  rcases h with h | ⟨b, off, h1, h2, h3⟩
  · omega
  · obtain ⟨x, hx, hc⟩ := h3 i hi
    exact ⟨b, off, x, hx, h1, h2, hc⟩

set_option maxRecDepth 100000 in
set_option maxHeartbeats 4000000 in
theorem plan_is (N : Int) (a1 a2 : Option Addr) (l1 c1 l2 c2 : Nat) (w : World) (hN : (Lit.int .i64 N).wf = true) (H1 : Hid (IsInts w a1 l1)) (H2 : Hid (IsInts w a2 l2)) :
    Calls Try.prog 10 #[.agg #[.int .i64 N, .slice a1 l1 c1, .slice a2 l2 c2]] w fun e w' => Below w.heap.size w w' ∧ ∃ n : Nat, 0 < n ∧ n ≤ 6 ∧ ∃ (mk ed : Nat → Nat → Bool), e = .returned (.agg (planCells n mk ed).toArray) := by
  have HP := fun W => pick_6 N W hN
  have HI1 : Hid (∀ i, i < l1 → ∃ (b0 o0 : Nat) (x : Int), (Lit.int .i64 x).wf = true ∧ a1 = some ⟨b0, o0, none⟩ ∧ b0 < w.heap.size ∧ w.cell? ⟨b0, o0 + i, none⟩ = some (.int .i64 x)) := ints_at H1.out
  have HI2 : Hid (∀ i, i < l2 → ∃ (b0 o0 : Nat) (x : Int), (Lit.int .i64 x).wf = true ∧ a2 = some ⟨b0, o0, none⟩ ∧ b0 < w.heap.size ∧ w.cell? ⟨b0, o0 + i, none⟩ = some (.int .i64 x)) := ints_at H2.out
  have HTA : Hid (∀ (W : World) (C : Array Value) (t : TypeId) (B : Nat), W.heap.size = B → C.size = 55 → (W.alloc (.cells C t)).there B 0 55) := by
    intro W C t B h1 h2
    subst h1
    exact there_newG W C t 55 h2
  have HFZ : Hid (∀ (W : World) (C : Array Value) (t : TypeId) (B : Nat), W.heap.size = B → ∀ j, (W.alloc (.cells C t)).frozen? ⟨B, j, none⟩ = false) := by
    intro W C t B h1 j
    subst h1
    exact frozen_of_row _ _ _ _ _ (heap_alloc_new W _)
  go_enter Try.func10, Try.ntmps10
  go_wp2_with (first
    | (go_at_call 14; refine (HP _).mono ?_; rintro e w1 ⟨⟨m, hm, rfl⟩, rfl⟩)
    | (refine build33 (by rfl) _ (by rfl) (m + 1) (1 + (m : Int)) (by omega) (by rfl) ?_)
    | (refine storeAt 30 55 Try.size30 (by rfl) _ _ (by rfl) (w.heap.size + 1 + 1) 0 _ (by rfl) (by rfl) (HTA.out _ _ _ _ (by simp) rfl) (by simp [planCells_len]) (planCells_one _ _ _) ?_; intro w3 hb3 hz3 hk3 hr3 ho3 hf3))
  have hs3 : w.heap.size + 1 + 1 < w3.heap.size := by rw [hz3]; simp
  have hp3 : Pl w3 (w.heap.size + 1 + 1) (m + 1) (fun _ _ => false) (fun _ _ => false) := pl_of_range hs3 (by simpa using hr3) (fun j => (hf3 _).trans (HFZ.out _ _ _ _ (by simp) j))
  have d1 : w3.cell? ⟨w.heap.size, 1, none⟩ = some (.slice a1 l1 c1) := by
    have e1 := hb3.cell (p := ⟨w.heap.size, 1, none⟩) (by show w.heap.size < _; omega)
    rw [e1, World.cell?_alloc_lt _ _ _ (by show w.heap.size < _; simp; omega), World.cell?_alloc_lt _ _ _ (by show w.heap.size < _; simp), cell_of_row _ _ _ _ _ _ (heap_alloc_new w _)]; rfl
  have d2 : w3.cell? ⟨w.heap.size, 2, none⟩ = some (.slice a2 l2 c2) := by
    have e1 := hb3.cell (p := ⟨w.heap.size, 2, none⟩) (by show w.heap.size < _; omega)
    rw [e1, World.cell?_alloc_lt _ _ _ (by show w.heap.size < _; simp; omega), World.cell?_alloc_lt _ _ _ (by show w.heap.size < _; simp), cell_of_row _ _ _ _ _ _ (heap_alloc_new w _)]; rfl
  have HPI0 : Hid (PI w w3 (m + 1) a1 a2 l1 c1 l2 c2) := ⟨(below3 w _ _ _).trans (hb3.mono (by omega)), d1, d2, there_below hb3 (by omega) (World.there_alloc (HTA.out _ _ _ _ (by simp) rfl) _), _, _, hp3⟩
  clear d1 d2 hp3 hr3 hb3 hz3 hk3 ho3 hf3 hs3
  obtain ⟨n, hn⟩ : ∃ n, n = m + 1 := ⟨_, rfl⟩
  have hn1 : 0 < n := by omega
  have hn6 : n ≤ 6 := by omega
  rw [← hn] at HPI0
  clear hn
  clear HTA HFZ HP
  go_loopw [4] (fun q wr => ∃ i : Nat, i ≤ n ∧ q = .int .i64 i ∧ Hid (PI w wr n a1 a2 l1 c1 l2 c2)) (fun q _ => n - (intOf q).toNat)
  case atStart => exact ⟨0, by omega, rfl, HPI0⟩
  case round =>
    clear HPI0
    obtain ⟨i, hi, rfl, HPI⟩ := hrel
    have cn := HPI.out.cn
    by_cases hlt : i < n
    · go_wp2_with fail
      clear cn
      go_loopw [5] (fun q wr => ∃ k : Nat, k ≤ 3 ∧ q = .int .i64 k ∧ Hid (PI w wr n a1 a2 l1 c1 l2 c2)) (fun q _ => 3 - (intOf q).toNat)
      case atStart => exact ⟨0, by omega, rfl, HPI⟩
      case round =>
       clear HPI
       obtain ⟨k, hk, rfl, HPI⟩ := hrel
       have i0 : (0 : Int) ≤ (i : Int) := by omega
       have i1 : (i : Int) < 6 := by omega
       by_cases hkl : k < 3
       · have k0 : (0 : Int) ≤ (k : Int) := by omega
         have k1 : (k : Int) < 3 := by omega
         obtain ⟨⟨v0, cv0⟩, zv0⟩ := HPI.out.cm i k (by omega) hkl
         by_cases hin : i < l1
         · obtain ⟨b0, o0, x, hwf, hac, hlt0, hcx⟩ := HI1.out i hin
           have he0 : wr.cell? ⟨b0, o0 + i, none⟩ = some (.int .i64 x) := (HPI.out.bel.cell (p := ⟨b0, o0 + i, none⟩) hlt0).trans hcx
           have i2 : (i : Int) < (l1 : Int) := by omega
           have nb : w.heap.size + 1 + 1 ≠ b0 := by omega
           have HBIT := fun W => bit_is x k W hwf (by omega)
           have hs0 := HPI.out.s1
           rw [hac] at hs0
           have HAC : Hid (a1 = some ⟨b0, o0, none⟩) := hac
           clear hac
           go_wp2_with fail
           go_region_held3 (fun w' => w'.cell? ⟨w.heap.size, 1, none⟩ = some (.slice (some ⟨b0, o0, none⟩) l1 c1) ∧ w'.cell? ⟨b0, o0 + i, none⟩ = some (.int .i64 x)) (first
               | exact ⟨hs0, he0⟩
               | exact ⟨(cell_otherS (addrB (by omega))).trans hs0, (cell_otherS (addrB nb)).trans he0⟩) (first
             | (go_at_call 26; refine (HBIT _).mono ?_; rintro e w' ⟨⟨bb, rfl⟩, rfl⟩))
           all_goals
             go_wp2_with fail
             go_roundw
             case rel => exact ⟨k + 1, by omega, by go_num, (HPI.out.mark i k (by omega) (by omega) _)⟩
             case measure => simp [intOf]; omega
         · have i2 : decide ((i : Int) < (l1 : Int)) = false := by rw [decide_eq_false_iff_not]; omega
           have i3 : (l1 : Int) ≤ (i : Int) := by omega
           have hs0 := HPI.out.s1
           go_wp2_with fail
           go_region
           all_goals
             go_wp2_with fail
             go_roundw
             case rel => exact ⟨k + 1, by omega, by go_num, (HPI.out.mark i k (by omega) (by omega) _)⟩
             case measure => simp [intOf]; omega

       · go_wp2_with fail
         have cn := HPI.out.cn
         go_loopw [6] (fun q wr => ∃ k : Nat, k ≤ n ∧ q = .int .i64 k ∧ Hid (PI w wr n a1 a2 l1 c1 l2 c2)) (fun q _ => n - (intOf q).toNat)
         case atStart => exact ⟨0, by omega, rfl, HPI⟩
         case round =>
          clear HPI cn
          obtain ⟨j, hj, rfl, HPI⟩ := hrel
          have cn := HPI.out.cn
          by_cases hjl : j < n
          · have k0 : (0 : Int) ≤ (j : Int) := by omega
            have k1 : (j : Int) < 6 := by omega
            obtain ⟨⟨v0, cv0⟩, zv0⟩ := HPI.out.ce i j (by omega) (by omega)
            by_cases hin : i < l2
            · obtain ⟨b0, o0, x, hwf, hac, hlt0, hcx⟩ := HI2.out i hin
              have he0 : wr.cell? ⟨b0, o0 + i, none⟩ = some (.int .i64 x) := (HPI.out.bel.cell (p := ⟨b0, o0 + i, none⟩) hlt0).trans hcx
              have i2 : (i : Int) < (l2 : Int) := by omega
              have nb : w.heap.size + 1 + 1 ≠ b0 := by omega
              have HBIT := fun W => bit_is x j W hwf (by omega)
              have hs0 := HPI.out.s2
              rw [hac] at hs0
              have HAC : Hid (a2 = some ⟨b0, o0, none⟩) := hac
              clear hac
              go_wp2_with fail
              go_region_held3 (fun w' => w'.cell? ⟨w.heap.size, 2, none⟩ = some (.slice (some ⟨b0, o0, none⟩) l2 c2) ∧ w'.cell? ⟨b0, o0 + i, none⟩ = some (.int .i64 x)) (first
                  | exact ⟨hs0, he0⟩
                  | exact ⟨(cell_otherS (addrB (by omega))).trans hs0, (cell_otherS (addrB nb)).trans he0⟩) (first
                | (go_at_call 26; refine (HBIT _).mono ?_; rintro e w' ⟨⟨bb, rfl⟩, rfl⟩))
              all_goals
                go_wp2_with fail
                go_roundw
                case rel => exact ⟨j + 1, by omega, by go_num, (HPI.out.edge i j (by omega) (by omega) _)⟩
                case measure => simp [intOf]; omega
            · have i2 : decide ((i : Int) < (l2 : Int)) = false := by rw [decide_eq_false_iff_not]; omega
              have i3 : (l2 : Int) ≤ (i : Int) := by omega
              have hs0 := HPI.out.s2
              go_wp2_with fail
              go_region
              all_goals
                go_wp2_with fail
                go_roundw
                case rel => exact ⟨j + 1, by omega, by go_num, (HPI.out.edge i j (by omega) (by omega) _)⟩
                case measure => simp [intOf]; omega

          · go_wp2_with fail
            go_roundw
            case rel => exact ⟨i + 1, by omega, by go_num, HPI⟩
            case measure => simp [intOf]; omega
    · obtain ⟨mk, ed, hp⟩ := HPI.out.pl
      have HPL : Hid (Pl _ (w.heap.size + 1 + 1) n mk ed) := hp
      clear hp
      go_wp2_with (first
        | (refine loadT 30 55 Try.size30 Try.row30 (by rfl) _ (by rfl) (w.heap.size + 1 + 1) (by rfl) (planCells n mk ed) HPL.out.range (planCells_len _ _ _) ?_)
        | (refine storeT 30 55 Try.size30 (by rfl) _ _ (by rfl) (w.heap.size + 1) (planCells n mk ed).toArray (by rfl) (by rfl) HPI.out.th (by simp [planCells_len]) (planCells_one _ _ _) ?_; intro w7 hb7 hz7 hk7 hr7))
      exact bodyPost_ret (resultT Try.results10 Try.size30 Try.row30 _ _ (w.heap.size + 1) (planCells n mk ed) rfl (by simpa using hr7) (planCells_len _ _ _)) rfl ⟨HPI.out.bel.trans (hb7.mono (by omega)), n, hn1, hn6, mk, ed, rfl⟩

end Go.Proofs.Ytcfbfdjmcabnkaa

namespace Go.Proofs.Ytcfbfdjmcabnkaa
open Go.RowKit Fw
set_option linter.unusedVariables false

/-- the letters from c on whose numbers below k have it -/
def some8 (c : Nat) (p : Nat → Bool) (k : Nat) : List UInt8 := (((List.range k).filter p).map (c + ·)).map b8
theorem some8_zero (c : Nat) (p : Nat → Bool) : some8 c p 0 = [] := rfl
theorem some8_yes {c : Nat} {p : Nat → Bool} {k : Nat} (h : p k = true) : some8 c p (k + 1) = some8 c p k ++ [b8 (c + k)] := by
  simp [some8, List.range_succ, h]
theorem some8_no {c : Nat} {p : Nat → Bool} {k : Nat} (h : p k = false) : some8 c p (k + 1) = some8 c p k := by
  simp [some8, List.range_succ, h]
theorem some8_len (c : Nat) (p : Nat → Bool) (k : Nat) : (some8 c p k).length ≤ k := by
  simp only [some8, List.length_map]
  exact Nat.le_trans (List.length_filter_le _ _) (by simp)
theorem rowT_is (mk ed : Nat → Bool) (n : Nat) : rowT mk ed n = some8 112 mk 3 ++ [62] ++ some8 48 ed n ++ [59] := by
  simp [rowT, markN, nextN, some8]
theorem rows_snoc (mk ed : Nat → Nat → Bool) (n : Nat) : ∀ m i, rowsT mk ed n (m + 1) i = rowsT mk ed n m i ++ rowT (mk (i + m)) (ed (i + m)) n := by
  intro m
  induction m with
  | zero => intro i; simp [rowsT]
  | succ m ih =>
    intro i
    rw [rowsT, ih (i + 1), rowsT, List.append_assoc, show i + 1 + m = i + (m + 1) from by omega]

theorem cut3 (k : Nat) (hk : k < 3) : (⟨#[112, 113, 114]⟩ : ByteArray).extract k (k + 1) = bs [b8 (112 + k)] := by
  obtain rfl | rfl | rfl : k = 0 ∨ k = 1 ∨ k = 2 := by omega
  all_goals rfl
theorem cut6 (k : Nat) (hk : k < 6) : (⟨#[48, 49, 50, 51, 52, 53]⟩ : ByteArray).extract k (k + 1) = bs [b8 (48 + k)] := by
  obtain rfl | rfl | rfl | rfl | rfl | rfl : k = 0 ∨ k = 1 ∨ k = 2 ∨ k = 3 ∨ k = 4 ∨ k = 5 := by omega
  all_goals rfl
theorem bs_cat (a b : List UInt8) : bs a ++ bs b = bs (a ++ b) := by
  apply ByteArray.ext
  rw [ByteArray.data_append]
  simp [bs]
theorem add_bs (a b : List UInt8) (h : a.length + b.length ≤ 1000) (W : World) : (Op.stringOp .add (bs a) (bs b)).run Try.prog W = .ok (.string (bs (a ++ b))) W := by
  rw [← bs_cat]
  exact run_string_add_sum (P := Try.prog) (w := W) _ _ (by rw [bs_size, bs_size]; omega)

set_option maxRecDepth 100000 in
set_option maxHeartbeats 4000000 in
theorem text_is (n : Nat) (mk ed : Nat → Nat → Bool) (w : World) (hn : n ≤ 6) :
    Calls Try.prog 11 #[.agg (planCells n mk ed).toArray] w fun e w' => e = .returned (.string (bs (rowsT mk ed n n 0))) ∧ Below w.heap.size w w' := by
  have HP0 := pl_new w n mk ed 30 _ rfl
  obtain ⟨C, hC⟩ : ∃ C, C = (planCells n mk ed).toArray := ⟨_, rfl⟩
  rw [← hC] at HP0
  rw [← hC]
  clear hC
  have HP : Hid (Pl (w.alloc (.cells C 30)) w.heap.size n mk ed) := HP0
  clear HP0
  have hb : Below w.heap.size w (w.alloc (.cells C 30)) := below1 w _
  have cn := HP.out.cn
  have H62 : Hid ((⟨#[62]⟩ : ByteArray) = bs [62]) := rfl
  have H59 : Hid ((⟨#[59]⟩ : ByteArray) = bs [59]) := rfl
  have HL : Hid (∀ i, i ≤ n → (rowsT mk ed n i 0).length ≤ 66) := by
    intro i hi
    have h1 := rows_len mk ed n i 0
    have h2 : i * (n + 5) ≤ 6 * 11 := Nat.mul_le_mul (by omega) (by omega)
    omega
  go_enter Try.func11, Try.ntmps11
  go_wp2_with fail
  go_loop [3, 4] (fun v q => ∃ i : Nat, i ≤ n ∧ v = .string (bs (rowsT mk ed n i 0)) ∧ q = .int .i64 i) (fun _ q => n - (intOf q).toNat)
  case atStart => exact ⟨0, by omega, rfl, rfl⟩
  case round =>
    obtain ⟨i, hi, rfl, rfl⟩ := hrel
    by_cases hlt : i < n
    · have i0 : (0 : Int) ≤ (i : Int) := by omega
      have i1 : (i : Int) < 6 := by omega
      obtain ⟨T0, hT0⟩ : ∃ T0, T0 = rowsT mk ed n i 0 := ⟨_, rfl⟩
      have hl0 : T0.length ≤ 66 := by rw [hT0]; exact HL.out i hi
      have HT0 : Hid (T0 = rowsT mk ed n i 0) := hT0
      rw [← hT0]
      clear hT0
      go_wp2_with fail
      go_loop [3, 5] (fun v q => ∃ k : Nat, k ≤ 3 ∧ v = .string (bs (T0 ++ some8 112 (mk i) k)) ∧ q = .int .i64 k) (fun _ q => 3 - (intOf q).toNat)
      case atStart => exact ⟨0, by omega, by rw [some8_zero, List.append_nil], rfl⟩
      case round =>
        obtain ⟨k, hk, rfl, rfl⟩ := hrel
        have hlm := some8_len 112 (mk i) k
        by_cases hkl : k < 3
        · have k0 : (0 : Int) ≤ (k : Int) := by omega
          have k1 : (k : Int) < 3 := by omega
          have cm := HP.out.cm i k (by omega) hkl
          cases hm : mk i k with
          | true =>
            rw [hm] at cm
            have HS : Hid (some8 112 (mk i) (k + 1) = some8 112 (mk i) k ++ [b8 (112 + k)]) := some8_yes hm
            have hcut := cut3 k hkl
            obtain ⟨X, hX⟩ : ∃ X, X = bs [b8 (112 + k)] := ⟨_, rfl⟩
            have hadd := add_bs (T0 ++ some8 112 (mk i) k) [b8 (112 + k)] (by simp; omega)
            rw [← hX] at hcut hadd
            rw [List.append_assoc, ← HS.out] at hadd
            obtain ⟨Y, hY⟩ : ∃ Y, Y = bs (T0 ++ some8 112 (mk i) k) := ⟨_, rfl⟩
            obtain ⟨Z, hZ⟩ : ∃ Z, Z = bs (T0 ++ some8 112 (mk i) (k + 1)) := ⟨_, rfl⟩
            rw [← hY, ← hZ] at hadd
            rw [← hY]
            have HZ : Hid (Z = bs (T0 ++ some8 112 (mk i) (k + 1))) := hZ
            clear hX hY hZ hm
            go_wp2_with fail
            go_round
            case rel => exact ⟨k + 1, by omega, by rw [HZ.out], by go_num⟩
            case measure => simp [intOf]; omega
          | false =>
            rw [hm] at cm
            have HS : Hid (some8 112 (mk i) (k + 1) = some8 112 (mk i) k) := some8_no hm
            clear hm
            go_wp2_with fail
            go_round
            case rel => exact ⟨k + 1, by omega, by rw [HS.out], by go_num⟩
            case measure => simp [intOf]; omega
        · have hk3 : k = 3 := by omega
          have HK3 : Hid (k = 3) := hk3
          clear hk3
          obtain ⟨T1, hT1⟩ : ∃ T1, T1 = T0 ++ some8 112 (mk i) k ++ [62] := ⟨_, rfl⟩
          have HT1 : Hid (T1 = T0 ++ some8 112 (mk i) k ++ [62]) := hT1
          have hl1 : T1.length ≤ 80 := by rw [hT1]; simp; omega
          have hadd := add_bs (T0 ++ some8 112 (mk i) k) [62] (by simp; omega)
          rw [← hT1, ← H62.out] at hadd
          obtain ⟨Y, hY⟩ : ∃ Y, Y = bs (T0 ++ some8 112 (mk i) k) := ⟨_, rfl⟩
          obtain ⟨Z, hZ⟩ : ∃ Z, Z = bs T1 := ⟨_, rfl⟩
          rw [← hY, ← hZ] at hadd
          rw [← hY]
          have HZ : Hid (Z = bs T1) := hZ
          clear hY hZ hT1
          go_wp2_with fail
          go_loop [3, 6] (fun v q => ∃ j : Nat, j ≤ n ∧ v = .string (bs (T1 ++ some8 48 (ed i) j)) ∧ q = .int .i64 j) (fun _ q => n - (intOf q).toNat)
          case atStart => exact ⟨0, by omega, by rw [some8_zero, List.append_nil, HZ.out], rfl⟩
          case round =>
            clear hadd
            obtain ⟨j, hj, rfl, rfl⟩ := hrel
            have hlj := some8_len 48 (ed i) j
            by_cases hjl : j < n
            · have j0 : (0 : Int) ≤ (j : Int) := by omega
              have j1 : (j : Int) < 6 := by omega
              have ce := HP.out.ce i j (by omega) (by omega)
              cases hm : ed i j with
              | true =>
                rw [hm] at ce
                have HS : Hid (some8 48 (ed i) (j + 1) = some8 48 (ed i) j ++ [b8 (48 + j)]) := some8_yes hm
                have hcut := cut6 j (by omega)
                obtain ⟨X, hX⟩ : ∃ X, X = bs [b8 (48 + j)] := ⟨_, rfl⟩
                have hadd := add_bs (T1 ++ some8 48 (ed i) j) [b8 (48 + j)] (by simp; omega)
                rw [← hX] at hcut hadd
                rw [List.append_assoc, ← HS.out] at hadd
                obtain ⟨Y', hY⟩ : ∃ Y', Y' = bs (T1 ++ some8 48 (ed i) j) := ⟨_, rfl⟩
                obtain ⟨Z', hZ⟩ : ∃ Z', Z' = bs (T1 ++ some8 48 (ed i) (j + 1)) := ⟨_, rfl⟩
                rw [← hY, ← hZ] at hadd
                rw [← hY]
                have HZ' : Hid (Z' = bs (T1 ++ some8 48 (ed i) (j + 1))) := hZ
                clear hX hY hZ hm
                go_wp2_with fail
                go_round
                case rel => exact ⟨j + 1, by omega, by rw [HZ'.out], by go_num⟩
                case measure => simp [intOf]; omega
              | false =>
                rw [hm] at ce
                have HS : Hid (some8 48 (ed i) (j + 1) = some8 48 (ed i) j) := some8_no hm
                clear hm
                go_wp2_with fail
                go_round
                case rel => exact ⟨j + 1, by omega, by rw [HS.out], by go_num⟩
                case measure => simp [intOf]; omega
            · have hjn : j = n := by omega
              have HJ : Hid (j = n) := hjn
              clear hjn
              have hadd := add_bs (T1 ++ some8 48 (ed i) j) [59] (by simp; omega)
              rw [← H59.out] at hadd
              have HE : Hid (bs (T1 ++ some8 48 (ed i) j ++ [59]) = bs (rowsT mk ed n (i + 1) 0)) := by
                show _ = _
                rw [rows_snoc, Nat.zero_add, rowT_is, ← HT0.out, HT1.out, HK3.out, HJ.out]
                simp only [List.append_assoc]
              rw [HE.out] at hadd
              obtain ⟨Y', hY⟩ : ∃ Y', Y' = bs (T1 ++ some8 48 (ed i) j) := ⟨_, rfl⟩
              obtain ⟨Z', hZ⟩ : ∃ Z', Z' = bs (rowsT mk ed n (i + 1) 0) := ⟨_, rfl⟩
              rw [← hY, ← hZ] at hadd
              rw [← hY]
              have HZ' : Hid (Z' = bs (rowsT mk ed n (i + 1) 0)) := hZ
              clear hY hZ HE
              go_wp2_with fail
              go_round
              case rel => exact ⟨i + 1, by omega, by rw [HZ'.out], by go_num⟩
              case measure => simp [intOf]; omega
    · have hin : i = n := by omega
      have HI : Hid (i = n) := hin
      clear hin
      go_wp2_with fail
      go_ret
      exact ⟨by rw [← HI.out]; rfl, hb⟩

set_option maxRecDepth 100000 in
set_option maxHeartbeats 2000000 in
theorem ones_is (H : Nat → Bool) (n : Nat) (hn : n ≤ 6) (w : World) :
    Calls Try.prog 13 #[.agg (six H), .int .i64 (n : Int)] w fun e w' => e = .returned (.string (bs (bitsU H n))) ∧ Below w.heap.size w w' := by
  have HR : Hid (Arr (w.alloc (.cells (six H) 27)) w.heap.size 6 H) := arr_new w H 27
  have hb : Below w.heap.size w (w.alloc (.cells (six H) 27)) := below1 w _
  go_enter Try.func13, Try.ntmps13
  go_wp2_with fail
  go_loop [5, 6] (fun v q => ∃ k : Nat, k ≤ n ∧ v = .string (bs (bitsU H k)) ∧ q = .int .i64 k) (fun _ q => n - (intOf q).toNat)
  case atStart => exact ⟨0, by omega, rfl, rfl⟩
  case round =>
    obtain ⟨k, hk, rfl, rfl⟩ := hrel
    by_cases hlt : k < n
    · have k0 : (0 : Int) ≤ (k : Int) := by omega
      have k1 : (k : Int) < 6 := by omega
      have cr := HR.out.c k (by omega)
      have hl : (bs (bitsU H k)).size = k := by rw [bs_size, bitsU_len]
      have hl2 : (bs (bitsU H k)).size ≤ 6 := by omega
      have HB := bitsU_succ H k
      cases hx : H k with
      | true =>
        rw [hx] at cr HB
        have HB' : Hid (bs (bitsU H k) ++ (⟨#[49]⟩ : ByteArray) = bs (bitsU H (k + 1))) := by show _ = _; rw [HB, if_pos rfl]; exact bs_add _ [49]
        clear HB hx
        go_wp2_with fail
        go_round
        case rel => exact ⟨k + 1, by omega, by rw [HB'.out], by go_num⟩
        case measure => simp [intOf]; omega
      | false =>
        rw [hx] at cr HB
        have HB' : Hid (bs (bitsU H k) ++ (⟨#[48]⟩ : ByteArray) = bs (bitsU H (k + 1))) := by show _ = _; rw [HB, if_neg (by simp)]; exact bs_add _ [48]
        clear HB hx
        go_wp2_with fail
        go_round
        case rel => exact ⟨k + 1, by omega, by rw [HB'.out], by go_num⟩
        case measure => simp [intOf]; omega
    · have hkn : k = n := by omega
      have HK : Hid (k = n) := hkn
      clear hkn
      go_wp2_with fail
      go_ret
      exact ⟨by rw [← HK.out]; rfl, hb⟩

end Go.Proofs.Ytcfbfdjmcabnkaa

namespace Go.Proofs.Ytcfbfdjmcabnkaa
open Go.RowKit Fw
open Go.Deep (BT)
set_option linter.unusedVariables false

theorem fsOf_nilL : fsOf ⟨#[]⟩ = [] := rfl

theorem fw_agree {e e' : Nat → Nat → Bool} {S : Nat → Bool} {n : Nat} (h : ∀ i j, i < n → j < n → e i j = e' i j) : ∀ k, k ≤ n → ∀ i j, i < n → j < n → fw e S k i j = fw e' S k i j := by
  intro k
  induction k with
  | zero => intro _ i j hi hj; rw [fw, fw, h i j hi hj]
  | succ k ih =>
    intro hk i j hi hj
    rw [fw, fw, ih (by omega) i j hi hj, ih (by omega) i k hi (by omega), ih (by omega) k j (by omega) hj]

/-- what Solve tells of a plan -/
theorem plan_sol {s f x : ByteArray} {mk ed : Nat → Nat → Bool} {n : Nat} {t : Fm} (h0 : 0 < n) (hn : n ≤ 6) (h : s.data.toList = rowsT mk ed n n 0) (hf : fairOk f = true) (gt : good t) (hx : x.data.toList = txt t) (hs : x.size ≤ 30) (hd : nst t ≤ 3) {C : Nat → Bool}
    (hC : ∀ i, i < n → (sat (gphOf s) (fsOf f) t i ↔ C i = true)) : sol s f x = (bs (bitsU C n), 0) := by
  have hck := plan_chk h0 hn h
  have hsz := plan_size hn h
  obtain ⟨_, gn, _, _⟩ := plan_read h0 hn h
  rw [sol_of (by omega) (by rw [hck]) hf gt hx hs hd, gn]
  rw [bits_congr fun i hi => (show holdsB (gphOf s) (fsOf f) t i = C i from by
    rw [Bool.eq_iff_iff, holdsB_iff (gph_ok (by rw [hck])) t gt i (by rw [gn]; exact hi)]
    exact hC i hi)]

theorem reach_sols {s : ByteArray} {mk ed : Nat → Nat → Bool} {n : Nat} (h0 : 0 < n) (hn : n ≤ 6) (h : s.data.toList = rowsT mk ed n n 0) (self : ∀ i, i < n → ed i i = true) {C D E : Nat → Bool}
    (hC : ∀ i, i < n → (C i = true ↔ ∃ j, j < n ∧ fw ed (fun _ => true) n i j = true ∧ mk j 0 = true)) (hD : ∀ i, i < n → D i = mk i 0) (hE : ∀ i, i < n → (E i = true ↔ ∃ j, j < n ∧ ed i j = true ∧ mk j 0 = true)) :
    sol s ⟨#[]⟩ ⟨#[69, 91, 84, 85, 112, 93]⟩ = (bs (bitsU C n), 0) ∧ sol s ⟨#[]⟩ ⟨#[69, 91, 33, 84, 82, 112, 93]⟩ = (bs (bitsU D n), 0) ∧ sol s ⟨#[]⟩ ⟨#[69, 88, 112]⟩ = (bs (bitsU E n), 0) := by
  have hck := plan_chk h0 hn h
  have ok := gph_ok (show (chk s).1 = 0 by rw [hck])
  obtain ⟨_, gn, ge, gm⟩ := plan_read h0 hn h
  have ga : isAtom 112 = true := by decide
  have h84 : ¬ (112 : Nat) = 84 := by decide
  have gp : good (tP 112) := good_atom ga
  have gT : good tT := good_T
  have gnT : good (tNot tT) := by simp [tNot, good, gT]
  have hm : ∀ j, j < n → ((gphOf s).m j 112 = true ↔ mk j 0 = true) := by
    intro j hj
    rw [gm j 112 hj]
    constructor
    · rintro ⟨k, hk, h1, h2⟩
      obtain rfl : k = 0 := by omega
      exact h1
    · intro h1
      exact ⟨0, by omega, h1, rfl⟩
  have he : ∀ i j, i < n → j < n → (gphOf s).e i j = ed i j := by
    intro i j hi hj
    rw [ge i j hi]
    simp [hj]
  have hself : ∀ i, i < (gphOf s).n → (gphOf s).e i i = true := by
    intro i hi
    rw [gn] at hi
    rw [he i i hi hi]
    exact self i hi
  refine ⟨plan_sol h0 hn h (by decide) (t := tWay 85 69 tT (tP 112)) (good_un gT gp).1 (by rfl) (by decide) (by decide) fun i hi => ?_, plan_sol h0 hn h (by decide) (t := tWay 82 69 (tNot tT) (tP 112)) (good_un gnT gp).2.1 (by rfl) (by decide) (by decide) fun i hi => ?_, plan_sol h0 hn h (by decide) (t := tNx 69 (tP 112)) (by simp [tNx, good, gp]) (by rfl) (by decide) (by decide) fun i hi => ?_⟩
  · rw [fsOf_nilL, reach_eu hself ok ga h84 (by rw [gn]; exact hi), hC i hi, gn]
    constructor
    · rintro ⟨j, hj, h1, h2⟩
      exact ⟨j, hj, by rw [← fw_agree he n (Nat.le_refl _) i j hi hj]; exact h1, (hm j hj).1 h2⟩
    · rintro ⟨j, hj, h1, h2⟩
      exact ⟨j, hj, by rw [fw_agree he n (Nat.le_refl _) i j hi hj]; exact h1, (hm j hj).2 h2⟩
  · rw [fsOf_nilL, reach_er hself ga h84 (by rw [gn]; exact hi), hm i hi, hD i hi]
  · rw [fsOf_nilL, reach_ex hself ok ga h84 (by rw [gn]; exact hi), hE i hi, gn]
    constructor
    · rintro ⟨j, hj, h1, h2⟩
      exact ⟨j, hj, by rw [← he i j hi hj]; exact h1, (hm j hj).1 h2⟩
    · rintro ⟨j, hj, h1, h2⟩
      exact ⟨j, hj, by rw [he i j hi hj]; exact h1, (hm j hj).2 h2⟩

theorem loadAtT {ops : Array Oper} {rest : List Oper} {op : Oper} {a : Act} {w : World} {Q : Exit → Act → World → Prop} (T n : Nat) (hT : (Try.prog.info? T).map (·.size) = some n) (hrow : ∃ d, Try.prog.underlying T = some d ∧ d.isRow = true) (hgd : op.guard = none) (x : Operand) (ho : op.op = .load T x)
    (b o : Nat) (hx : a.eval x = .pointer (some ⟨b, o, none⟩)) (cs : List Value) (hc : w.rangeAt b o cs) (hl : cs.length = n)
    (h : wpList Try.prog ops Q rest (a.put op.dst (.agg cs.toArray)) w) : wpList Try.prog ops Q (op :: rest) a w := by
  obtain ⟨d, hu, hd⟩ := hrow
  exact wpList_load_mid hgd T x ho b o hx cs d hc hu hd (by rw [hl]; exact hT) h

theorem Pl.edges {w : World} {b n : Nat} {mk ed : Nat → Nat → Bool} (h : Pl w b n mk ed) : w.rangeAt b 19 (bools 36 (flat6 ed)) := by
  intro j v hv
  have hj : j < 36 := by
    have := (List.getElem?_eq_some_iff.1 hv).1
    rw [bools_len] at this
    exact this
  simp only [bools, List.getElem?_map, List.getElem?_range hj, Option.map_some] at hv
  injection hv with hv
  rw [← hv]
  have := h.ce (j / 6) (j % 6) (by omega) (by omega)
  rw [show 19 + j / 6 * 6 + j % 6 = 19 + j from by omega] at this
  exact this
theorem Pl.setOther {w : World} {b n : Nat} {mk ed : Nat → Nat → Bool} (h : Pl w b n mk ed) {a : Addr} (v : Value) (ha : a.block ≠ b) : Pl (w.setCell a v) b n mk ed := by
  have hc : ∀ p : Addr, p.block = b → (w.setCell a v).cell? p = w.cell? p := fun p hp => cell_otherS (by intro e; rw [e] at ha; exact ha hp)
  exact ⟨by simpa using h.lt, (hc _ rfl).trans h.cn, fun i k hi hk => (hc _ rfl).trans (h.cm i k hi hk), fun i j hi hj => (hc _ rfl).trans (h.ce i j hi hj), fun o => by rw [World.frozen?_setCell]; exact h.fz o⟩
theorem Pl.congr {w : World} {b n : Nat} {mk ed mk' ed' : Nat → Nat → Bool} (h : Pl w b n mk ed) (hm : ∀ i k, i < 6 → k < 3 → mk i k = mk' i k) (he : ∀ i j, i < 6 → j < 6 → ed i j = ed' i j) : Pl w b n mk' ed' :=
  ⟨h.lt, h.cn, fun i k hi hk => by rw [← hm i k hi hk]; exact h.cm i k hi hk, fun i j hi hj => by rw [← he i j hi hj]; exact h.ce i j hi hj, h.fz⟩

theorem Try.size28 : (Try.prog.info? 28).map (·.size) = some 36 := by kernel_rfl
theorem Try.row28 : ∃ d, Try.prog.underlying 28 = some d ∧ d.isRow = true := ⟨_, Try.underlying28, rfl⟩
theorem Try.size27 : (Try.prog.info? 27).map (·.size) = some 6 := by kernel_rfl
theorem Try.row27 : ∃ d, Try.prog.underlying 27 = some d ∧ d.isRow = true := ⟨_, Try.underlying27, rfl⟩

end Go.Proofs.Ytcfbfdjmcabnkaa

