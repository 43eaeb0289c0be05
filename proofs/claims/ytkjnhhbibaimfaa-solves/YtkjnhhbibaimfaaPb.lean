import Derived.Test.YtkjnhhbibaimfaaSg
import Derived.Test.YtkjnhhbibaimfaaPa
namespace Go.Proofs.Ytkjnhhbibaimfaa
open Go.RowKit Fw
set_option linter.unusedVariables false

/-! ### The program's sets and tables as values -/
theorem Try.size59 : (Try.prog.info? 59).map (·.size) = some 6 := by kernel_rfl
theorem Try.row59 : ∃ d, Try.prog.underlying 59 = some d ∧ d.isRow = true := ⟨_, Try.underlying59, rfl⟩
theorem Try.size145 : (Try.prog.info? 145).map (·.size) = some 36 := by kernel_rfl
theorem Try.row145 : ∃ d, Try.prog.underlying 145 = some d ∧ d.isRow = true := ⟨_, Try.underlying145, rfl⟩

theorem loadS {ops : Array Oper} {rest : List Oper} {op : Oper} {a : Act} {w : World} {Q : Exit → Act → World → Prop} (hgd : op.guard = none) (x : Operand) (ho : op.op = .load 59 x)
    (b : Nat) (hx : a.eval x = .pointer (some ⟨b, 0, none⟩)) (f : Nat → Bool) (hc : Arr w b 6 f)
    (h : wpList Try.prog ops Q rest (a.put op.dst (.agg (six f))) w) : wpList Try.prog ops Q (op :: rest) a w :=
  loadT 59 6 Try.size59 Try.row59 hgd x ho b hx _ hc.range (bools_len _ _) h
theorem storeS {ops : Array Oper} {rest : List Oper} {op : Oper} {a : Act} {w : World} {Q : Exit → Act → World → Prop} (hgd : op.guard = none) (x y : Operand) (ho : op.op = .store 59 x y)
    (b : Nat) (f g : Nat → Bool) (hx : a.eval x = .pointer (some ⟨b, 0, none⟩)) (hy : a.eval y = .agg (six g)) (hc : Arr w b 6 f)
    (h : ∀ w', Below b w w' → w'.heap.size = w.heap.size → (∀ k, k ≠ b → w'.heap[k]? = w.heap[k]?) → Arr w' b 6 g → wpList Try.prog ops Q rest (a.put op.dst undef) w') : wpList Try.prog ops Q (op :: rest) a w := by
  refine wpList_store_mid hgd 59 x y ho b 0 (six g) hx hy hc.there Try.size59 (bools_one 6 g) ?_
  have hr : (w.setCells b 0 (six g).toList).rangeAt b 0 (bools 6 g) := World.rangeAt_setCells_same w b 0 (six g).toList hc.there
  refine h _ (below_setCellsT b _ _ _) (size_setCellsT b _ _ _) (block_setCellsT b _ _ _) (arr_of_range ?_ hr ?_)
  · rw [size_setCellsT]; exact hc.lt
  · intro o ho
    rw [World.frozen?_setCells]
    exact hc.z o ho
theorem loadW {ops : Array Oper} {rest : List Oper} {op : Oper} {a : Act} {w : World} {Q : Exit → Act → World → Prop} (hgd : op.guard = none) (x : Operand) (ho : op.op = .load 145 x)
    (b : Nat) (hx : a.eval x = .pointer (some ⟨b, 0, none⟩)) (M : Nat → Nat → Bool) (hc : Mat w b M)
    (h : wpList Try.prog ops Q rest (a.put op.dst (.agg (bools 36 (flat6 M)).toArray)) w) : wpList Try.prog ops Q (op :: rest) a w :=
  loadT 145 36 Try.size145 Try.row145 hgd x ho b hx _ hc.range (bools_len _ _) h
theorem storeW {ops : Array Oper} {rest : List Oper} {op : Oper} {a : Act} {w : World} {Q : Exit → Act → World → Prop} (hgd : op.guard = none) (x y : Operand) (ho : op.op = .store 145 x y)
    (b : Nat) (M N : Nat → Nat → Bool) (hx : a.eval x = .pointer (some ⟨b, 0, none⟩)) (hy : a.eval y = .agg (bools 36 (flat6 N)).toArray) (hc : Mat w b M)
    (h : ∀ w', Below b w w' → w'.heap.size = w.heap.size → (∀ k, k ≠ b → w'.heap[k]? = w.heap[k]?) → Mat w' b N → wpList Try.prog ops Q rest (a.put op.dst undef) w') : wpList Try.prog ops Q (op :: rest) a w := by
  refine wpList_store_mid hgd 145 x y ho b 0 (bools 36 (flat6 N)).toArray hx hy (by rw [bools_size]; exact hc.there) (by rw [bools_size]; exact Try.size145) (bools_one 36 _) ?_
  have hr : (w.setCells b 0 (bools 36 (flat6 N)).toArray.toList).rangeAt b 0 (bools 36 (flat6 N)) := World.rangeAt_setCells_same w b 0 (bools 36 (flat6 N)).toArray.toList (by rw [Array.length_toList, bools_size]; exact hc.there)
  refine h _ (below_setCellsT b _ _ _) (size_setCellsT b _ _ _) (block_setCellsT b _ _ _) (mat_of_range ?_ hr ?_)
  · rw [size_setCellsT]; exact hc.lt
  · intro o ho
    rw [World.frozen?_setCells]
    exact hc.z o ho
theorem resultS {fn : Func} {p : Nat} (hf : fn.results = #[.cell p 59]) (tmps : Array Value) (w : World) (b : Nat) (f : Nat → Bool) (hp : tmps.getD p undef = .pointer (some ⟨b, 0, none⟩)) (hc : Arr w b 6 f) :
    (results fn tmps).run Try.prog w = .ok (.agg (six f)) w := resultT hf Try.size59 Try.row59 tmps w b (bools 6 f) hp hc.range (bools_len _ _)
theorem resultW {fn : Func} {p : Nat} (hf : fn.results = #[.cell p 145]) (tmps : Array Value) (w : World) (b : Nat) (M : Nat → Nat → Bool) (hp : tmps.getD p undef = .pointer (some ⟨b, 0, none⟩)) (hc : Mat w b M) :
    (results fn tmps).run Try.prog w = .ok (.agg (bools 36 (flat6 M)).toArray) w := resultT hf Try.size145 Try.row145 tmps w b (bools 36 (flat6 M)) hp hc.range (bools_len _ _)

set_option maxRecDepth 100000 in
set_option maxHeartbeats 1000000 in
theorem othersP_is (a : Nat → Bool) (w : World) :
    Calls Try.prog 65 #[.agg (six a)] w fun e w' => e = .returned (.agg (six fun j => !(a j))) ∧ Below w.heap.size w w' := by
  go_enter Try.func65, Try.ntmps65
  go_wp2_with fail
  go_loopw [4] (fun q wr => ∃ k : Nat, k ≤ 6 ∧ q = .int .i64 k ∧ Below w.heap.size w wr ∧ Hid (Arr wr w.heap.size 6 a) ∧ Hid (Arr wr (w.heap.size + 1) 6 (fun _ => false)) ∧ Hid (Arr wr (w.heap.size + 1 + 1) 6 (upto k fun j => !(a j)))) (fun q _ => 6 - (intOf q).toNat)
  case atStart =>
    refine ⟨0, by omega, rfl, below3 w _ _ _, ((arr_new w a 59).alloc _).alloc _, (arr_at (w.alloc _) (fun _ => false) 59 _ (by simp)).alloc _, ?_⟩
    show Arr _ _ _ _
    rw [upto_zero]
    exact arr_at _ (fun _ => false) 59 _ (by simp)
  case round =>
    obtain ⟨k, hk, rfl, hbel, HA, HR, HS⟩ := hrel
    have e1 : w.heap.size ≠ w.heap.size + 1 + 1 := by omega
    have e2 : w.heap.size + 1 ≠ w.heap.size + 1 + 1 := by omega
    by_cases hlt : k < 6
    · have ca := HA.out.c k (by omega)
      have cs := HS.out.c k (by omega)
      have zs := HS.out.z k (by omega)
      have k0 : (0 : Int) ≤ (k : Int) := by omega
      have k1 : (k : Int) < 6 := by omega
      go_wp2_with fail
      go_roundw
      case rel => exact ⟨k + 1, by omega, by go_num, hbel.setCell (by simp; omega) _, HA.out.setOther _ (Ne.symm e1), HR.out.setOther _ (Ne.symm e2), HS.out.next (by omega) _ rfl⟩
      case measure => simp [intOf]; omega
    · obtain rfl : k = 6 := by omega
      go_wp2_with (first | (refine loadS (by rfl) _ (by rfl) (w.heap.size + 1 + 1) (by rfl) _ HS.out ?_) | (refine storeS (by rfl) _ _ (by rfl) (w.heap.size + 1) _ _ (by rfl) (by rfl) HR.out ?_; intro w5 hb5 hz5 hk5 HR5))
      exact bodyPost_ret (resultS Try.results65 _ _ (w.heap.size + 1) _ rfl HR5) rfl ⟨rfl, hbel.trans (hb5.mono (by omega))⟩

set_option maxRecDepth 100000 in
set_option maxHeartbeats 1000000 in
theorem bothP_is (a b : Nat → Bool) (w : World) :
    Calls Try.prog 92 #[.agg (six a), .agg (six b)] w fun e w' => e = .returned (.agg (six fun j => a j && b j)) ∧ Below w.heap.size w w' := by
  go_enter Try.func92, Try.ntmps92
  go_wp2_with fail
  go_loopw [6] (fun q wr => ∃ k : Nat, k ≤ 6 ∧ q = .int .i64 k ∧ Below w.heap.size w wr ∧ Hid (Arr wr w.heap.size 6 a) ∧ Hid (Arr wr (w.heap.size + 1) 6 b) ∧ Hid (Arr wr (w.heap.size + 1 + 1) 6 (fun _ => false)) ∧ Hid (Arr wr (w.heap.size + 1 + 1 + 1) 6 (upto k fun j => a j && b j))) (fun q _ => 6 - (intOf q).toNat)
  case atStart =>
    refine ⟨0, by omega, rfl, below4 w _ _ _ _, (((arr_new w a 59).alloc _).alloc _).alloc _, ((arr_at (w.alloc _) b 59 _ (by simp)).alloc _).alloc _, (arr_at _ (fun _ => false) 59 _ (by simp)).alloc _, ?_⟩
    show Arr _ _ _ _
    rw [upto_zero]
    exact arr_at _ (fun _ => false) 59 _ (by simp)
  case round =>
    obtain ⟨k, hk, rfl, hbel, HA, HB, HR, HS⟩ := hrel
    have e1 : w.heap.size ≠ w.heap.size + 1 + 1 + 1 := by omega
    have e2 : w.heap.size + 1 ≠ w.heap.size + 1 + 1 + 1 := by omega
    have e3 : w.heap.size + 1 + 1 ≠ w.heap.size + 1 + 1 + 1 := by omega
    by_cases hlt : k < 6
    · have ca := HA.out.c k (by omega)
      have cb := HB.out.c k (by omega)
      have cs := HS.out.c k (by omega)
      have zs := HS.out.z k (by omega)
      have k0 : (0 : Int) ≤ (k : Int) := by omega
      have k1 : (k : Int) < 6 := by omega
      cases hak : a k with
      | true =>
        rw [hak] at ca
        have HK : Hid (a k = true) := hak
        clear hak
        go_wp2_with fail
        go_roundw
        case rel => exact ⟨k + 1, by omega, by go_num, hbel.setCell (by simp; omega) _, HA.out.setOther _ (Ne.symm e1), HB.out.setOther _ (Ne.symm e2), HR.out.setOther _ (Ne.symm e3), HS.out.next (by omega) _ (by rw [HK.out, Bool.true_and])⟩
        case measure => simp [intOf]; omega
      | false =>
        rw [hak] at ca
        have HK : Hid (a k = false) := hak
        clear hak
        go_wp2_with fail
        go_roundw
        case rel => exact ⟨k + 1, by omega, by go_num, hbel.setCell (by simp; omega) _, HA.out.setOther _ (Ne.symm e1), HB.out.setOther _ (Ne.symm e2), HR.out.setOther _ (Ne.symm e3), HS.out.next (by omega) _ (by rw [HK.out, Bool.false_and])⟩
        case measure => simp [intOf]; omega
    · obtain rfl : k = 6 := by omega
      go_wp2_with (first | (refine loadS (by rfl) _ (by rfl) (w.heap.size + 1 + 1 + 1) (by rfl) _ HS.out ?_) | (refine storeS (by rfl) _ _ (by rfl) (w.heap.size + 1 + 1) _ _ (by rfl) (by rfl) HR.out ?_; intro w5 hb5 hz5 hk5 HR5))
      exact bodyPost_ret (resultS Try.results92 _ _ (w.heap.size + 1 + 1) _ rfl HR5) rfl ⟨rfl, hbel.trans (hb5.mono (by omega))⟩

set_option maxRecDepth 100000 in
set_option maxHeartbeats 1000000 in
theorem eitherP_is (a b : Nat → Bool) (w : World) :
    Calls Try.prog 93 #[.agg (six a), .agg (six b)] w fun e w' => e = .returned (.agg (six fun j => a j || b j)) ∧ Below w.heap.size w w' := by
  go_enter Try.func93, Try.ntmps93
  go_wp2_with fail
  go_loopw [6] (fun q wr => ∃ k : Nat, k ≤ 6 ∧ q = .int .i64 k ∧ Below w.heap.size w wr ∧ Hid (Arr wr w.heap.size 6 a) ∧ Hid (Arr wr (w.heap.size + 1) 6 b) ∧ Hid (Arr wr (w.heap.size + 1 + 1) 6 (fun _ => false)) ∧ Hid (Arr wr (w.heap.size + 1 + 1 + 1) 6 (upto k fun j => a j || b j))) (fun q _ => 6 - (intOf q).toNat)
  case atStart =>
    refine ⟨0, by omega, rfl, below4 w _ _ _ _, (((arr_new w a 59).alloc _).alloc _).alloc _, ((arr_at (w.alloc _) b 59 _ (by simp)).alloc _).alloc _, (arr_at _ (fun _ => false) 59 _ (by simp)).alloc _, ?_⟩
    show Arr _ _ _ _
    rw [upto_zero]
    exact arr_at _ (fun _ => false) 59 _ (by simp)
  case round =>
    obtain ⟨k, hk, rfl, hbel, HA, HB, HR, HS⟩ := hrel
    have e1 : w.heap.size ≠ w.heap.size + 1 + 1 + 1 := by omega
    have e2 : w.heap.size + 1 ≠ w.heap.size + 1 + 1 + 1 := by omega
    have e3 : w.heap.size + 1 + 1 ≠ w.heap.size + 1 + 1 + 1 := by omega
    by_cases hlt : k < 6
    · have ca := HA.out.c k (by omega)
      have cb := HB.out.c k (by omega)
      have cs := HS.out.c k (by omega)
      have zs := HS.out.z k (by omega)
      have k0 : (0 : Int) ≤ (k : Int) := by omega
      have k1 : (k : Int) < 6 := by omega
      cases hak : a k with
      | true =>
        rw [hak] at ca
        have HK : Hid (a k = true) := hak
        clear hak
        go_wp2_with fail
        go_roundw
        case rel => exact ⟨k + 1, by omega, by go_num, hbel.setCell (by simp; omega) _, HA.out.setOther _ (Ne.symm e1), HB.out.setOther _ (Ne.symm e2), HR.out.setOther _ (Ne.symm e3), HS.out.next (by omega) _ (by rw [HK.out, Bool.true_or])⟩
        case measure => simp [intOf]; omega
      | false =>
        rw [hak] at ca
        have HK : Hid (a k = false) := hak
        clear hak
        go_wp2_with fail
        go_roundw
        case rel => exact ⟨k + 1, by omega, by go_num, hbel.setCell (by simp; omega) _, HA.out.setOther _ (Ne.symm e1), HB.out.setOther _ (Ne.symm e2), HR.out.setOther _ (Ne.symm e3), HS.out.next (by omega) _ (by rw [HK.out, Bool.false_or])⟩
        case measure => simp [intOf]; omega
    · obtain rfl : k = 6 := by omega
      go_wp2_with (first | (refine loadS (by rfl) _ (by rfl) (w.heap.size + 1 + 1 + 1) (by rfl) _ HS.out ?_) | (refine storeS (by rfl) _ _ (by rfl) (w.heap.size + 1 + 1) _ _ (by rfl) (by rfl) HR.out ?_; intro w5 hb5 hz5 hk5 HR5))
      exact bodyPost_ret (resultS Try.results93 _ _ (w.heap.size + 1 + 1) _ rfl HR5) rfl ⟨rfl, hbel.trans (hb5.mono (by omega))⟩

end Go.Proofs.Ytkjnhhbibaimfaa
