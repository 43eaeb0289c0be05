import Derived.Deep.RegionHeld3
import Derived.ChangeKeysEq
import Derived.Test.YtcfbfdjmcabnkaaG8
import Derived.Test.YtcfbfdjmcabnkaaG1
namespace Go.Proofs.Ytcfbfdjmcabnkaa
open Go.RowKit Fw
set_option linter.unusedVariables false

/-! ### The program's sets and tables as values -/
theorem Try.size56 : (Try.prog.info? 56).map (·.size) = some 6 := by kernel_rfl
theorem Try.row56 : ∃ d, Try.prog.underlying 56 = some d ∧ d.isRow = true := ⟨_, Try.underlying56, rfl⟩
theorem Try.size108 : (Try.prog.info? 108).map (·.size) = some 36 := by kernel_rfl
theorem Try.row108 : ∃ d, Try.prog.underlying 108 = some d ∧ d.isRow = true := ⟨_, Try.underlying108, rfl⟩

theorem loadS {ops : Array Oper} {rest : List Oper} {op : Oper} {a : Act} {w : World} {Q : Exit → Act → World → Prop} (hgd : op.guard = none) (x : Operand) (ho : op.op = .load 56 x)
    (b : Nat) (hx : a.eval x = .pointer (some ⟨b, 0, none⟩)) (f : Nat → Bool) (hc : Arr w b 6 f)
    (h : wpList Try.prog ops Q rest (a.put op.dst (.agg (six f))) w) : wpList Try.prog ops Q (op :: rest) a w :=
  loadT 56 6 Try.size56 Try.row56 hgd x ho b hx _ hc.range (bools_len _ _) h
theorem storeS {ops : Array Oper} {rest : List Oper} {op : Oper} {a : Act} {w : World} {Q : Exit → Act → World → Prop} (hgd : op.guard = none) (x y : Operand) (ho : op.op = .store 56 x y)
    (b : Nat) (f g : Nat → Bool) (hx : a.eval x = .pointer (some ⟨b, 0, none⟩)) (hy : a.eval y = .agg (six g)) (hc : Arr w b 6 f)
    (h : ∀ w', Below b w w' → w'.heap.size = w.heap.size → (∀ k, k ≠ b → w'.heap[k]? = w.heap[k]?) → Arr w' b 6 g → wpList Try.prog ops Q rest (a.put op.dst undef) w') : wpList Try.prog ops Q (op :: rest) a w := by
  refine wpList_store_mid hgd 56 x y ho b 0 (six g) hx hy hc.there Try.size56 (bools_one 6 g) ?_
  have hr : (w.setCells b 0 (six g).toList).rangeAt b 0 (bools 6 g) := World.rangeAt_setCells_same w b 0 (six g).toList hc.there
  refine h _ (below_setCellsT b _ _ _) (size_setCellsT b _ _ _) (block_setCellsT b _ _ _) (arr_of_range ?_ hr ?_)
  · rw [size_setCellsT]; exact hc.lt
  · intro o ho
    rw [World.frozen?_setCells]
    exact hc.z o ho
theorem loadW {ops : Array Oper} {rest : List Oper} {op : Oper} {a : Act} {w : World} {Q : Exit → Act → World → Prop} (hgd : op.guard = none) (x : Operand) (ho : op.op = .load 108 x)
    (b : Nat) (hx : a.eval x = .pointer (some ⟨b, 0, none⟩)) (M : Nat → Nat → Bool) (hc : Mat w b M)
    (h : wpList Try.prog ops Q rest (a.put op.dst (.agg (bools 36 (flat6 M)).toArray)) w) : wpList Try.prog ops Q (op :: rest) a w :=
  loadT 108 36 Try.size108 Try.row108 hgd x ho b hx _ hc.range (bools_len _ _) h
theorem storeW {ops : Array Oper} {rest : List Oper} {op : Oper} {a : Act} {w : World} {Q : Exit → Act → World → Prop} (hgd : op.guard = none) (x y : Operand) (ho : op.op = .store 108 x y)
    (b : Nat) (M N : Nat → Nat → Bool) (hx : a.eval x = .pointer (some ⟨b, 0, none⟩)) (hy : a.eval y = .agg (bools 36 (flat6 N)).toArray) (hc : Mat w b M)
    (h : ∀ w', Below b w w' → w'.heap.size = w.heap.size → (∀ k, k ≠ b → w'.heap[k]? = w.heap[k]?) → Mat w' b N → wpList Try.prog ops Q rest (a.put op.dst undef) w') : wpList Try.prog ops Q (op :: rest) a w := by
  refine wpList_store_mid hgd 108 x y ho b 0 (bools 36 (flat6 N)).toArray hx hy (by rw [bools_size]; exact hc.there) (by rw [bools_size]; exact Try.size108) (bools_one 36 _) ?_
  have hr : (w.setCells b 0 (bools 36 (flat6 N)).toArray.toList).rangeAt b 0 (bools 36 (flat6 N)) := World.rangeAt_setCells_same w b 0 (bools 36 (flat6 N)).toArray.toList (by rw [Array.length_toList, bools_size]; exact hc.there)
  refine h _ (below_setCellsT b _ _ _) (size_setCellsT b _ _ _) (block_setCellsT b _ _ _) (mat_of_range ?_ hr ?_)
  · rw [size_setCellsT]; exact hc.lt
  · intro o ho
    rw [World.frozen?_setCells]
    exact hc.z o ho
theorem resultS {fn : Func} {p : Nat} (hf : fn.results = #[.cell p 56]) (tmps : Array Value) (w : World) (b : Nat) (f : Nat → Bool) (hp : tmps.getD p undef = .pointer (some ⟨b, 0, none⟩)) (hc : Arr w b 6 f) :
    (results fn tmps).run Try.prog w = .ok (.agg (six f)) w := resultT hf Try.size56 Try.row56 tmps w b (bools 6 f) hp hc.range (bools_len _ _)
theorem resultW {fn : Func} {p : Nat} (hf : fn.results = #[.cell p 108]) (tmps : Array Value) (w : World) (b : Nat) (M : Nat → Nat → Bool) (hp : tmps.getD p undef = .pointer (some ⟨b, 0, none⟩)) (hc : Mat w b M) :
    (results fn tmps).run Try.prog w = .ok (.agg (bools 36 (flat6 M)).toArray) w := resultT hf Try.size108 Try.row108 tmps w b (bools 36 (flat6 M)) hp hc.range (bools_len _ _)

set_option maxRecDepth 100000 in
set_option maxHeartbeats 1000000 in
theorem othersP_is (a : Nat → Bool) (w : World) :
    Calls Try.prog 47 #[.agg (six a)] w fun e w' => e = .returned (.agg (six fun j => !(a j))) ∧ Below w.heap.size w w' := by
  go_enter Try.func47, Try.ntmps47
  go_wp2_with fail
  go_loopw [4] (fun q wr => ∃ k : Nat, k ≤ 6 ∧ q = .int .i64 k ∧ Below w.heap.size w wr ∧ Hid (Arr wr w.heap.size 6 a) ∧ Hid (Arr wr (w.heap.size + 1) 6 (fun _ => false)) ∧ Hid (Arr wr (w.heap.size + 1 + 1) 6 (upto k fun j => !(a j)))) (fun q _ => 6 - (intOf q).toNat)
  case atStart =>
    refine ⟨0, by omega, rfl, below3 w _ _ _, ((arr_new w a 56).alloc _).alloc _, (arr_at (w.alloc _) (fun _ => false) 56 _ (by simp)).alloc _, ?_⟩
    show Arr _ _ _ _
    rw [upto_zero]
    exact arr_at _ (fun _ => false) 56 _ (by simp)
  case round =>
    obtain ⟨k, hk, rfl, hbel, HA, HR, HS⟩ := hrel
    have e1 : w.heap.size ≠ w.heap.size + 1 + 1 := by omega
    have e2 : w.heap.size + 1 ≠ w.heap.size + 1 + 1 := by omega
    by_cases hlt : k < 6
    · have ca := HA.out.c k (by omega)
      have cs := HS.out.c k (by omega)
      have zs := HS.out.z k (by omega)
      have k0 : (0 : Int) ≤ (k : Int) := by omega
      have k1 : (k : Int) < 6 := by omega
      go_wp2_with fail
      go_roundw
      case rel => exact ⟨k + 1, by omega, by go_num, hbel.setCell (by simp; omega) _, HA.out.setOther _ (Ne.symm e1), HR.out.setOther _ (Ne.symm e2), HS.out.next (by omega) _ rfl⟩
      case measure => simp [intOf]; omega
    · obtain rfl : k = 6 := by omega
      go_wp2_with (first | (refine loadS (by rfl) _ (by rfl) (w.heap.size + 1 + 1) (by rfl) _ HS.out ?_) | (refine storeS (by rfl) _ _ (by rfl) (w.heap.size + 1) _ _ (by rfl) (by rfl) HR.out ?_; intro w5 hb5 hz5 hk5 HR5))
      exact bodyPost_ret (resultS Try.results47 _ _ (w.heap.size + 1) _ rfl HR5) rfl ⟨rfl, hbel.trans (hb5.mono (by omega))⟩

set_option maxRecDepth 100000 in
set_option maxHeartbeats 1000000 in
theorem bothP_is (a b : Nat → Bool) (w : World) :
    Calls Try.prog 68 #[.agg (six a), .agg (six b)] w fun e w' => e = .returned (.agg (six fun j => a j && b j)) ∧ Below w.heap.size w w' := by
  go_enter Try.func68, Try.ntmps68
  go_wp2_with fail
  go_loopw [6] (fun q wr => ∃ k : Nat, k ≤ 6 ∧ q = .int .i64 k ∧ Below w.heap.size w wr ∧ Hid (Arr wr w.heap.size 6 a) ∧ Hid (Arr wr (w.heap.size + 1) 6 b) ∧ Hid (Arr wr (w.heap.size + 1 + 1) 6 (fun _ => false)) ∧ Hid (Arr wr (w.heap.size + 1 + 1 + 1) 6 (upto k fun j => a j && b j))) (fun q _ => 6 - (intOf q).toNat)
  case atStart =>
    refine ⟨0, by omega, rfl, below4 w _ _ _ _, (((arr_new w a 56).alloc _).alloc _).alloc _, ((arr_at (w.alloc _) b 56 _ (by simp)).alloc _).alloc _, (arr_at _ (fun _ => false) 56 _ (by simp)).alloc _, ?_⟩
    show Arr _ _ _ _
    rw [upto_zero]
    exact arr_at _ (fun _ => false) 56 _ (by simp)
  case round =>
    obtain ⟨k, hk, rfl, hbel, HA, HB, HR, HS⟩ := hrel
    have e1 : w.heap.size ≠ w.heap.size + 1 + 1 + 1 := by omega
    have e2 : w.heap.size + 1 ≠ w.heap.size + 1 + 1 + 1 := by omega
    have e3 : w.heap.size + 1 + 1 ≠ w.heap.size + 1 + 1 + 1 := by omega
    by_cases hlt : k < 6
    · have ca := HA.out.c k (by omega)
      have cb := HB.out.c k (by omega)
      have cs := HS.out.c k (by omega)
      have zs := HS.out.z k (by omega)
      have k0 : (0 : Int) ≤ (k : Int) := by omega
      have k1 : (k : Int) < 6 := by omega
      cases hak : a k with
      | true =>
        rw [hak] at ca
        have HK : Hid (a k = true) := hak
        clear hak
        go_wp2_with fail
        go_roundw
        case rel => exact ⟨k + 1, by omega, by go_num, hbel.setCell (by simp; omega) _, HA.out.setOther _ (Ne.symm e1), HB.out.setOther _ (Ne.symm e2), HR.out.setOther _ (Ne.symm e3), HS.out.next (by omega) _ (by rw [HK.out, Bool.true_and])⟩
        case measure => simp [intOf]; omega
      | false =>
        rw [hak] at ca
        have HK : Hid (a k = false) := hak
        clear hak
        go_wp2_with fail
        go_roundw
        case rel => exact ⟨k + 1, by omega, by go_num, hbel.setCell (by simp; omega) _, HA.out.setOther _ (Ne.symm e1), HB.out.setOther _ (Ne.symm e2), HR.out.setOther _ (Ne.symm e3), HS.out.next (by omega) _ (by rw [HK.out, Bool.false_and])⟩
        case measure => simp [intOf]; omega
    · obtain rfl : k = 6 := by omega
      go_wp2_with (first | (refine loadS (by rfl) _ (by rfl) (w.heap.size + 1 + 1 + 1) (by rfl) _ HS.out ?_) | (refine storeS (by rfl) _ _ (by rfl) (w.heap.size + 1 + 1) _ _ (by rfl) (by rfl) HR.out ?_; intro w5 hb5 hz5 hk5 HR5))
      exact bodyPost_ret (resultS Try.results68 _ _ (w.heap.size + 1 + 1) _ rfl HR5) rfl ⟨rfl, hbel.trans (hb5.mono (by omega))⟩

set_option maxRecDepth 100000 in
set_option maxHeartbeats 1000000 in
theorem eitherP_is (a b : Nat → Bool) (w : World) :
    Calls Try.prog 69 #[.agg (six a), .agg (six b)] w fun e w' => e = .returned (.agg (six fun j => a j || b j)) ∧ Below w.heap.size w w' := by
  go_enter Try.func69, Try.ntmps69
  go_wp2_with fail
  go_loopw [6] (fun q wr => ∃ k : Nat, k ≤ 6 ∧ q = .int .i64 k ∧ Below w.heap.size w wr ∧ Hid (Arr wr w.heap.size 6 a) ∧ Hid (Arr wr (w.heap.size + 1) 6 b) ∧ Hid (Arr wr (w.heap.size + 1 + 1) 6 (fun _ => false)) ∧ Hid (Arr wr (w.heap.size + 1 + 1 + 1) 6 (upto k fun j => a j || b j))) (fun q _ => 6 - (intOf q).toNat)
  case atStart =>
    refine ⟨0, by omega, rfl, below4 w _ _ _ _, (((arr_new w a 56).alloc _).alloc _).alloc _, ((arr_at (w.alloc _) b 56 _ (by simp)).alloc _).alloc _, (arr_at _ (fun _ => false) 56 _ (by simp)).alloc _, ?_⟩
    show Arr _ _ _ _
    rw [upto_zero]
    exact arr_at _ (fun _ => false) 56 _ (by simp)
  case round =>
    obtain ⟨k, hk, rfl, hbel, HA, HB, HR, HS⟩ := hrel
    have e1 : w.heap.size ≠ w.heap.size + 1 + 1 + 1 := by omega
    have e2 : w.heap.size + 1 ≠ w.heap.size + 1 + 1 + 1 := by omega
    have e3 : w.heap.size + 1 + 1 ≠ w.heap.size + 1 + 1 + 1 := by omega
    by_cases hlt : k < 6
    · have ca := HA.out.c k (by omega)
      have cb := HB.out.c k (by omega)
      have cs := HS.out.c k (by omega)
      have zs := HS.out.z k (by omega)
      have k0 : (0 : Int) ≤ (k : Int) := by omega
      have k1 : (k : Int) < 6 := by omega
      cases hak : a k with
      | true =>
        rw [hak] at ca
        have HK : Hid (a k = true) := hak
        clear hak
        go_wp2_with fail
        go_roundw
        case rel => exact ⟨k + 1, by omega, by go_num, hbel.setCell (by simp; omega) _, HA.out.setOther _ (Ne.symm e1), HB.out.setOther _ (Ne.symm e2), HR.out.setOther _ (Ne.symm e3), HS.out.next (by omega) _ (by rw [HK.out, Bool.true_or])⟩
        case measure => simp [intOf]; omega
      | false =>
        rw [hak] at ca
        have HK : Hid (a k = false) := hak
        clear hak
        go_wp2_with fail
        go_roundw
        case rel => exact ⟨k + 1, by omega, by go_num, hbel.setCell (by simp; omega) _, HA.out.setOther _ (Ne.symm e1), HB.out.setOther _ (Ne.symm e2), HR.out.setOther _ (Ne.symm e3), HS.out.next (by omega) _ (by rw [HK.out, Bool.false_or])⟩
        case measure => simp [intOf]; omega
    · obtain rfl : k = 6 := by omega
      go_wp2_with (first | (refine loadS (by rfl) _ (by rfl) (w.heap.size + 1 + 1 + 1) (by rfl) _ HS.out ?_) | (refine storeS (by rfl) _ _ (by rfl) (w.heap.size + 1 + 1) _ _ (by rfl) (by rfl) HR.out ?_; intro w5 hb5 hz5 hk5 HR5))
      exact bodyPost_ret (resultS Try.results69 _ _ (w.heap.size + 1 + 1) _ rfl HR5) rfl ⟨rfl, hbel.trans (hb5.mono (by omega))⟩

end Go.Proofs.Ytcfbfdjmcabnkaa

namespace Go.Proofs.Ytcfbfdjmcabnkaa
open Go.RowKit Fw
set_option linter.unusedVariables false

/-- from cell o of block b on: a graph as the program keeps it, the fair marks behind it, and a set behind these -/
structure Wy (w : World) (b o : Nat) (G : Gph) (K : Nat → ByteArray) (f : ByteArray) (B : Nat → Bool) : Prop where
  lt : b < w.heap.size
  n6 : G.n ≤ 6
  cn : w.cell? ⟨b, o + 2, none⟩ = some (.int .i64 (G.n : Int))
  cm : ∀ i, i < 6 → w.cell? ⟨b, o + 3 + i, none⟩ = some (.string (K i))
  ce : ∀ i j, i < 6 → j < 6 → w.cell? ⟨b, o + 9 + i * 6 + j, none⟩ = some (.bool (G.e i j))
  cf : w.cell? ⟨b, o + 45, none⟩ = some (.string f)
  cb : ∀ i, i < 6 → w.cell? ⟨b, o + 46 + i, none⟩ = some (.bool (B i))
  ks : ∀ i, (K i).size ≤ 1000
  mm : ∀ i c, i < 6 → (G.m i c = true ↔ ∃ d ∈ (K i).data.toList, d.toNat = c)

theorem Wy.below {w w' : World} {b o k : Nat} {G : Gph} {K : Nat → ByteArray} {f : ByteArray} {B : Nat → Bool} (h : Wy w b o G K f B) (hb : Below k w w') (hk : b < k) : Wy w' b o G K f B :=
  ⟨Nat.lt_of_lt_of_le h.lt hb.size, h.n6, (hb.cell (p := ⟨b, o + 2, none⟩) hk).trans h.cn, fun i hi => (hb.cell (p := ⟨b, o + 3 + i, none⟩) hk).trans (h.cm i hi), fun i j hi hj => (hb.cell (p := ⟨b, o + 9 + i * 6 + j, none⟩) hk).trans (h.ce i j hi hj), (hb.cell (p := ⟨b, o + 45, none⟩) hk).trans h.cf, fun i hi => (hb.cell (p := ⟨b, o + 46 + i, none⟩) hk).trans (h.cb i hi), h.ks, h.mm⟩

set_option maxRecDepth 100000 in
set_option maxHeartbeats 1000000 in
theorem bearsP_is (b o i c : Nat) (G : Gph) (K : Nat → ByteArray) (f : ByteArray) (B : Nat → Bool) (w : World) (hi : i < 6) (HG : Hid (Wy w b o G K f B)) :
    Calls Try.prog 79 #[.pointer (some ⟨b, o, none⟩), .int .i64 (i : Int), .int .u8 (c : Int)] w fun e w' => e = .returned (.bool (G.m i c)) ∧ w' = w := by
  have hm := HG.out.cm i hi
  obtain ⟨s, hs⟩ : ∃ s, s = K i := ⟨_, rfl⟩
  have hsz : s.size ≤ 1000 := by rw [hs]; exact HG.out.ks i
  rw [← hs] at hm
  have HB : Hid (G.m i c = decide (findc c (tl s 0) < s.size)) := by
    show _ = _
    rw [Bool.eq_iff_iff, HG.out.mm i c hi, ← hs, decide_eq_true_eq, tlS]
    have := findc_lt c s.data.toList
    rw [← this]
    have e : s.size = s.data.toList.length := by
      show s.data.size = _
      rw [Array.length_toList]
    rw [e]
  have k0 : (0 : Int) ≤ (i : Int) := by omega
  have k1 : (i : Int) < 6 := by omega
  clear hs
  go_enter Try.func79, Try.ntmps79
  go_wp2_with fail
  go_loop [8] (fun q => ∃ k : Nat, k ≤ s.size ∧ q = .int .i64 k ∧ Hid (k + findc c (tl s k) = findc c (tl s 0))) (fun q => s.size - (intOf q).toNat)
  case atStart => exact ⟨0, by omega, rfl, by show _ = _; simp⟩
  case round =>
    obtain ⟨k, hk, rfl, HF⟩ := hrel
    by_cases hlt : k < s.size
    · by_cases hc : s[k].toNat = c
      · have hc' : ((s[k].toNat : Int) == (c : Int)) = true := by rw [beq_iff_eq]; omega
        have HZ : Hid (findc c (tl s k) = 0) := findc_yes hlt hc
        clear hc
        go_wp2_with fail
        go_ret
        have h := HF.out
        rw [HZ.out] at h
        have hv : G.m i c = true := by rw [HB.out, decide_eq_true_eq]; omega
        exact ⟨by rw [hv]; rfl, rfl⟩
      · have hc' : ((s[k].toNat : Int) == (c : Int)) = false := by rw [beq_eq_false_iff_ne]; omega
        have HZ : Hid (findc c (tl s k) = findc c (tl s (k + 1)) + 1) := findc_no hlt hc
        go_wp2_with fail
        go_round
        case rel =>
          refine ⟨k + 1, by omega, by go_num, ?_⟩
          have h := HF.out
          rw [HZ.out] at h
          show _ = _
          omega
        case measure => simp [intOf]; omega
    · go_wp2_with fail
      go_ret
      have h := HF.out
      rw [findc_end (by omega)] at h
      have hv : G.m i c = false := by rw [HB.out, decide_eq_false_iff_not]; omega
      exact ⟨by rw [hv]; rfl, rfl⟩

theorem ahd_any (e : Nat → Nat → Bool) (a : Nat → Bool) (i : Nat) : anyU (fun j => e i j && a j) 6 = ahd e a i := rfl

set_option maxRecDepth 100000 in
set_option maxHeartbeats 2000000 in
theorem aheadP_is (b o : Nat) (G : Gph) (K : Nat → ByteArray) (f : ByteArray) (B a : Nat → Bool) (w : World) (HG : Hid (Wy w b o G K f B)) :
    Calls Try.prog 84 #[.pointer (some ⟨b, o, none⟩), .agg (six a)] w fun e w' => e = .returned (.agg (six (ahd G.e a))) ∧ Below w.heap.size w w' := by
  have hgl := HG.out.lt
  have e1 : w.heap.size ≠ w.heap.size + 1 + 1 := by omega
  have e2 : w.heap.size + 1 ≠ w.heap.size + 1 + 1 := by omega
  have e3 : b ≠ w.heap.size + 1 + 1 := by omega
  obtain ⟨F, hF⟩ : ∃ F, F = ahd G.e a := ⟨_, rfl⟩
  have HF : Hid (∀ i, anyU (fun j => G.e i j && a j) 6 = F i) := by intro i; rw [hF]; rfl
  rw [← hF]
  clear hF
  go_enter Try.func84, Try.ntmps84
  go_wp2_with fail
  go_loopw [6] (fun q wr => ∃ k : Nat, k ≤ 6 ∧ q = .int .i64 k ∧ Below w.heap.size w wr ∧ Hid (Arr wr w.heap.size 6 a) ∧ Hid (Arr wr (w.heap.size + 1) 6 (fun _ => false)) ∧ Hid (Arr wr (w.heap.size + 1 + 1) 6 (upto k F))) (fun q _ => 6 - (intOf q).toNat)
  case atStart =>
    refine ⟨0, by omega, rfl, below3 w _ _ _, ((arr_new w a 56).alloc _).alloc _, (arr_at (w.alloc _) (fun _ => false) 56 _ (by simp)).alloc _, ?_⟩
    show Arr _ _ _ _
    rw [upto_zero]
    exact arr_at _ (fun _ => false) 56 _ (by simp)
  case round =>
    obtain ⟨k, hk, rfl, hbel, HA, HR, HS⟩ := hrel
    by_cases hlt : k < 6
    · go_wp2_with fail
      go_loopw [7] (fun q wr => ∃ l : Nat, l ≤ 6 ∧ q = .int .i64 l ∧ Below w.heap.size w wr ∧ Hid (Arr wr w.heap.size 6 a) ∧ Hid (Arr wr (w.heap.size + 1) 6 (fun _ => false)) ∧ Hid (Arr wr (w.heap.size + 1 + 1) 6 (part k F (anyU (fun j => G.e k j && a j) l)))) (fun q _ => 6 - (intOf q).toNat)
      case atStart => exact ⟨0, by omega, rfl, hbel, HA, HR, HS.out.partIn⟩
      case round =>
        clear hbel HA HR HS
        obtain ⟨l, hl, rfl, hbel, HA, HR, HS⟩ := hrel
        by_cases hll : l < 6
        · have HGr : Hid (Wy _ b o G K f B) := HG.out.below hbel hgl
          have ca := HA.out.c l (by omega)
          have ce := HGr.out.ce k l (by omega) (by omega)
          have cs := HS.out.c k (by omega)
          have zs := HS.out.z k (by omega)
          have k0 : (0 : Int) ≤ (k : Int) := by omega
          have k1 : (k : Int) < 6 := by omega
          have l0 : (0 : Int) ≤ (l : Int) := by omega
          have l1 : (l : Int) < 6 := by omega
          have HX : Hid (anyU (fun j => G.e k j && a j) (l + 1) = (anyU (fun j => G.e k j && a j) l || (G.e k l && a l))) := anyU_succ _ _
          obtain ⟨x, hx⟩ : ∃ x, x = G.e k l := ⟨_, rfl⟩
          obtain ⟨y, hy⟩ : ∃ y, y = a l := ⟨_, rfl⟩
          rw [← hx] at ce HX
          rw [← hy] at ca HX
          clear hx hy
          cases x with
          | false =>
            go_wp2_with fail
            go_roundw
            case rel => exact ⟨l + 1, by omega, by go_num, hbel, HA, HR, by show Arr _ _ _ _; rw [HX.out, Bool.false_and, Bool.or_false]; exact HS.out⟩
            case measure => simp [intOf]; omega
          | true =>
            cases y with
            | false =>
              go_wp2_with fail
              go_roundw
              case rel => exact ⟨l + 1, by omega, by go_num, hbel, HA, HR, by show Arr _ _ _ _; rw [HX.out, Bool.and_false, Bool.or_false]; exact HS.out⟩
              case measure => simp [intOf]; omega
            | true =>
              go_wp2_with fail
              go_roundw
              case rel => exact ⟨l + 1, by omega, by go_num, hbel.setCell (by simp; omega) _, HA.out.setOther _ (Ne.symm e1), HR.out.setOther _ (Ne.symm e2), HS.out.part (by omega) _ _ (by rw [HX.out, Bool.and_true, Bool.or_true])⟩
              case measure => simp [intOf]; omega
        · obtain rfl : l = 6 := by omega
          go_wp2_with fail
          go_roundw
          case rel => exact ⟨k + 1, by omega, by go_num, hbel, HA, HR, HS.out.partOut (HF.out k)⟩
          case measure => simp [intOf]; omega
    · obtain rfl : k = 6 := by omega
      go_wp2_with (first | (refine loadS (by rfl) _ (by rfl) (w.heap.size + 1 + 1) (by rfl) _ HS.out ?_) | (refine storeS (by rfl) _ _ (by rfl) (w.heap.size + 1) _ _ (by rfl) (by rfl) HR.out ?_; intro w5 hb5 hz5 hk5 HR5))
      exact bodyPost_ret (resultS Try.results84 _ _ (w.heap.size + 1) _ rfl HR5) rfl ⟨rfl, hbel.trans (hb5.mono (by omega))⟩

end Go.Proofs.Ytcfbfdjmcabnkaa

namespace Go.Proofs.Ytcfbfdjmcabnkaa
open Go.RowKit Fw
set_option linter.unusedVariables false

theorem Wy.drew {w : World} {b o : Nat} {G : Gph} {K : Nat → ByteArray} {f : ByteArray} {B : Nat → Bool} (h : Wy w b o G K f B) : Wy w.drew b o G K f B := ⟨h.lt, h.n6, h.cn, h.cm, h.ce, h.cf, h.cb, h.ks, h.mm⟩

set_option maxRecDepth 100000 in
set_option maxHeartbeats 4000000 in
theorem reachIn_is (b o m : Nat) (G : Gph) (K : Nat → ByteArray) (f : ByteArray) (B S T : Nat → Bool) (w : World) (hm : m ≤ 5) (HG : Hid (Wy w b o G K f B)) :
    Calls Try.prog 82 #[.pointer (some ⟨b, o, none⟩), .int .i64 (m : Int), .agg (six S), .agg (six T)] w fun e w' => e = .returned (.agg (six (rea G.e S T m))) ∧ Below w.heap.size w w' := by
  have hgl := HG.out.lt
  have HA0 : Hid (Arr ((((w.alloc (.cells (six S) 56)).alloc (.cells (six T) 56)).alloc (.cells (six fun _ => false) 56)).alloc (.cells (six fun _ => false) 56)) w.heap.size 6 S) := (((arr_new w S 56).alloc _).alloc _).alloc _
  have HT0 : Hid (Arr (((w.alloc (.cells (six S) 56)).alloc (.cells (six T) 56)).alloc (.cells (six fun _ => false) 56)) (w.heap.size + 1) 6 T) := (arr_at _ _ 56 _ (by simp)).alloc _
  have HR0 : Hid (Arr ((((w.alloc (.cells (six S) 56)).alloc (.cells (six T) 56)).alloc (.cells (six fun _ => false) 56)).alloc (.cells (six fun _ => false) 56)) (w.heap.size + 1 + 1) 6 (fun _ => false)) := (arr_at _ _ 56 _ (by simp)).alloc _
  have hb0 := below4 w (.cells (six S) 56) (.cells (six T) 56) (.cells (six fun _ => false) 56) (.cells (six fun _ => false) 56)
  have HAH := fun (C : Nat → Bool) w' (h : Hid (Wy w' b o G K f B)) => aheadP_is b o G K f B C w' h
  go_enter Try.func82, Try.ntmps82
  go_wp2_with (first
    | (refine loadS (by rfl) _ (by rfl) (w.heap.size + 1) (by rfl) T HT0.out ?_)
    | (refine storeS (by rfl) _ _ (by rfl) (w.heap.size + 1 + 1 + 1) (fun _ => false) T (by rfl) (by rfl) (arr_at _ (fun _ => false) 56 _ (by simp)) ?_; intro w3 hb3 hz3 hk3 HL3))
  have HA3 : Hid (Arr w3 w.heap.size 6 S) := HA0.out.below hb3 (by omega)
  have HR3 : Hid (Arr w3 (w.heap.size + 1 + 1) 6 (fun _ => false)) := HR0.out.below hb3 (by omega)
  have hbel3 : Below w.heap.size w w3 := hb0.trans (hb3.mono (by omega))
  have HL3' : Hid (Arr w3 (w.heap.size + 1 + 1 + 1) 6 T) := HL3
  clear HL3 hb3 hz3 hk3 HA0 HT0 HR0 hb0
  go_loopw [10] (fun q wr => ∃ k : Nat, k ≤ m ∧ q = .int .i64 ((k + 1 : Nat) : Int) ∧ Below w.heap.size w wr ∧ Hid (Arr wr w.heap.size 6 S) ∧ Hid (Arr wr (w.heap.size + 1 + 1) 6 (fun _ => false)) ∧ Hid (Arr wr (w.heap.size + 1 + 1 + 1) 6 (rea G.e S T k))) (fun q _ => 6 - (intOf q).toNat)
  case atStart => exact ⟨0, by omega, rfl, hbel3, HA3, HR3, HL3'⟩
  case round =>
    clear hbel3 HA3 HR3 HL3'
    obtain ⟨k, hk, rfl, hbel, HA, HR, HL⟩ := hrel
    by_cases hlt : k < m
    · have hlt' : ((k : Int) + 1) ≤ (m : Int) := by omega
      obtain ⟨C, hC⟩ : ∃ C, C = rea G.e S T k := ⟨_, rfl⟩
      have HN : Hid ((fun j => C j || (S j && ahd G.e C j)) = rea G.e S T (k + 1)) := by rw [hC]; rfl
      rw [← hC] at HL
      clear hC
      have HAHC := HAH C
      obtain ⟨D, hD⟩ : ∃ D, D = ahd G.e C := ⟨_, rfl⟩
      rw [← hD] at HAHC HN
      clear hD
      obtain ⟨c0, c1, c2, c3, c4, c5⟩ := cells1 HL.out
      go_wp2_with fail
      obtain ⟨s0, s1, s2, s3, s4, s5⟩ := cells1 HA.out
      go_region_with (first
        | (go_at_call 84; refine (HAHC _ (HG.out.below hbel.drew hgl)).mono ?_; rintro e w4 ⟨rfl, hb4⟩
           have HA4 : Hid (Arr w4 w.heap.size 6 S) := HA.out.drew.below hb4 HA.out.drew.lt
           have HL4 : Hid (Arr w4 (w.heap.size + 1 + 1 + 1) 6 C) := HL.out.drew.below hb4 HL.out.drew.lt
           have HR4 : Hid (Arr w4 (w.heap.size + 1 + 1) 6 (fun _ => false)) := HR.out.drew.below hb4 HR.out.drew.lt
           have hbel4 : Below w.heap.size w w4 := Below.to hbel.drew hb4
           obtain ⟨c40, c41, c42, c43, c44, c45⟩ := cells1 HL4.out
           obtain ⟨s40, s41, s42, s43, s44, s45⟩ := cells1 HA4.out)
        | (go_at_call 68; refine (bothP_is S D _).mono ?_; rintro e w5 ⟨rfl, hb5⟩
           have HA5 : Hid (Arr w5 w.heap.size 6 S) := HA4.out.below hb5 HA4.out.lt
           have HL5 : Hid (Arr w5 (w.heap.size + 1 + 1 + 1) 6 C) := HL4.out.below hb5 HL4.out.lt
           have HR5 : Hid (Arr w5 (w.heap.size + 1 + 1) 6 (fun _ => false)) := HR4.out.below hb5 HR4.out.lt
           have hbel5 : Below w.heap.size w w5 := Below.to hbel4 hb5
           obtain ⟨c50, c51, c52, c53, c54, c55⟩ := cells1 HL5.out)
        | (go_at_call 69; refine (eitherP_is C (fun j => S j && D j) _).mono ?_; rintro e w6 ⟨rfl, hb6⟩
           have HA6 : Hid (Arr w6 w.heap.size 6 S) := HA5.out.below hb6 HA5.out.lt
           have HL6 : Hid (Arr w6 (w.heap.size + 1 + 1 + 1) 6 C) := HL5.out.below hb6 HL5.out.lt
           have HR6 : Hid (Arr w6 (w.heap.size + 1 + 1) 6 (fun _ => false)) := HR5.out.below hb6 HR5.out.lt
           have hbel6 : Below w.heap.size w w6 := Below.to hbel5 hb6
           obtain ⟨w7, hrun7, hb7, hz7, hk7, HL7'⟩ := stores6 HL6.out (fun j => C j || (S j && D j))
           have HA7 : Hid (Arr w7 w.heap.size 6 S) := HA6.out.otherK hz7 hk7 (by omega)
           have HR7 : Hid (Arr w7 (w.heap.size + 1 + 1) 6 (fun _ => false)) := HR6.out.otherK hz7 hk7 (by omega)
           have HL7 : Hid (Arr w7 (w.heap.size + 1 + 1 + 1) 6 (fun j => C j || (S j && D j))) := HL7'
           have hbel7 : Below w.heap.size w w7 := hbel6.trans (hb7.mono (by omega))
           clear HL7'))
      all_goals
        go_wp2_with fail
        go_roundw
        case rel => exact ⟨k + 1, by omega, by go_num, hbel7, HA7, HR7, by show Arr _ _ _ _; rw [← HN.out]; exact HL7.out⟩
        case measure => simp [intOf]; omega
    · obtain rfl : k = m := by omega
      have hlt' : ¬ ((k : Int) + 1) ≤ (k : Int) := by omega
      go_wp2_with (first | (refine loadS (by rfl) _ (by rfl) (w.heap.size + 1 + 1 + 1) (by rfl) _ HL.out ?_) | (refine storeS (by rfl) _ _ (by rfl) (w.heap.size + 1 + 1) _ _ (by rfl) (by rfl) HR.out ?_; intro w5 hb5 hz5 hk5 HR5))
      exact bodyPost_ret (resultS Try.results82 _ _ (w.heap.size + 1 + 1) _ rfl HR5) rfl ⟨rfl, hbel.trans (hb5.mono (by omega))⟩


set_option maxRecDepth 100000 in
set_option maxHeartbeats 4000000 in
theorem reachingP_is (b o : Nat) (G : Gph) (K : Nat → ByteArray) (f : ByteArray) (B S T : Nat → Bool) (w : World) (HG : Hid (Wy w b o G K f B)) :
    Calls Try.prog 66 #[.pointer (some ⟨b, o, none⟩), .agg (six S), .agg (six T)] w fun e w' => e = .returned (.agg (six (rea G.e S T 5))) ∧ Below w.heap.size w w' := by
  have hgl := HG.out.lt
  have HA0 : Hid (Arr (((w.alloc (.cells (six S) 56)).alloc (.cells (six T) 56)).alloc (.cells (six fun _ => false) 56)) w.heap.size 6 S) := ((arr_new w S 56).alloc _).alloc _
  have HT0 : Hid (Arr (((w.alloc (.cells (six S) 56)).alloc (.cells (six T) 56)).alloc (.cells (six fun _ => false) 56)) (w.heap.size + 1) 6 T) := (arr_at _ _ 56 _ (by simp)).alloc _
  have HR0 : Hid (Arr (((w.alloc (.cells (six S) 56)).alloc (.cells (six T) 56)).alloc (.cells (six fun _ => false) 56)) (w.heap.size + 1 + 1) 6 (fun _ => false)) := arr_at _ _ 56 _ (by simp)
  have hb0 := below3 w (.cells (six S) 56) (.cells (six T) 56) (.cells (six fun _ => false) 56)
  have HAH : ∀ W, Hid (Wy W b o G K f B) → Calls Try.prog 82 #[.pointer (some ⟨b, o, none⟩), .int .i64 5, .agg (six S), .agg (six T)] W fun e w' => e = .returned (.agg (six (rea G.e S T 5))) ∧ Below W.heap.size W w' := fun W h => reachIn_is b o 5 G K f B S T W (by omega) h
  obtain ⟨D, hD⟩ : ∃ D, D = rea G.e S T 5 := ⟨_, rfl⟩
  rw [← hD] at HAH
  rw [← hD]
  clear hD
  go_enter Try.func66, Try.ntmps66
  go_wp2_with (first
    | (refine loadS (by rfl) _ (by rfl) w.heap.size (by rfl) S HA0.out ?_)
    | (refine loadS (by rfl) _ (by rfl) (w.heap.size + 1) (by rfl) T HT0.out ?_)
    | (go_at_call 82; refine (HAH _ (show Hid _ from HG.out.below hb0 hgl)).mono ?_; rintro e w4 ⟨rfl, hb4⟩)
    | (refine storeS (by rfl) _ _ (by rfl) (w.heap.size + 1 + 1) _ _ (by rfl) (by rfl) (HR0.out.below hb4 HR0.out.lt) ?_; intro w5 hb5 hz5 hk5 HR5))
  exact bodyPost_ret (resultS Try.results66 _ _ (w.heap.size + 1 + 1) _ rfl HR5) rfl ⟨rfl, (Below.to hb0 hb4).trans (hb5.mono (by omega))⟩

end Go.Proofs.Ytcfbfdjmcabnkaa

namespace Go.Proofs.Ytcfbfdjmcabnkaa
open Go.RowKit Fw
set_option linter.unusedVariables false

/-- a table with what goes by way of m -/
def join (M : Nat → Nat → Bool) (m : Nat) : Nat → Nat → Bool := fun a b => M a b || (M a m && M m b)
theorem join_col (M : Nat → Nat → Bool) (m a : Nat) : join M m a m = M a m := by unfold join; cases M a m <;> simp
theorem join_row (M : Nat → Nat → Bool) (m b : Nat) : join M m m b = M m b := by unfold join; cases M m b <;> simp

set_option maxRecDepth 100000 in
set_option maxHeartbeats 4000000 in
theorem joinedP_is (M : Nat → Nat → Bool) (m : Nat) (hm : m < 6) (w : World) :
    Calls Try.prog 81 #[.agg (bools 36 (flat6 M)).toArray, .int .i64 (m : Int)] w fun e w' => e = .returned (.agg (bools 36 (flat6 (join M m))).toArray) ∧ Below w.heap.size w w' := by
  have HB0 := mat_box w M 108
  obtain ⟨C, hC⟩ : ∃ C, C = (bools 36 (flat6 M)).toArray := ⟨_, rfl⟩
  rw [← hC]
  rw [← hC] at HB0
  clear hC
  have HB : Hid (Mat (w.alloc (.cells C 108)) w.heap.size M) := HB0
  clear HB0
  have m0 : (0 : Int) ≤ (m : Int) := by omega
  have m1 : (m : Int) < 6 := by omega
  have e1 : w.heap.size ≠ w.heap.size + 1 := by omega
  go_enter Try.func81, Try.ntmps81
  go_wp2_with fail
  go_loopw [5] (fun q wr => ∃ k : Nat, k ≤ 6 ∧ q = .int .i64 k ∧ Below w.heap.size w wr ∧ Hid (Mat wr w.heap.size (half (join M m) M k 0)) ∧ Hid (Mat wr (w.heap.size + 1) (fun _ _ => false))) (fun q _ => 6 - (intOf q).toNat)
  case atStart =>
    exact ⟨0, by omega, rfl, below2S w _ _, (HB.out.alloc _).congr fun i j _ _ => (half_none i j).symm, mat_new (w.alloc _) 108 _ (by simp)⟩
  case round =>
    clear HB
    obtain ⟨k, hk, rfl, hbel, HM, HR⟩ := hrel
    by_cases hlt : k < 6
    · go_wp2_with fail
      go_loopw [6] (fun q wr => ∃ l : Nat, l ≤ 6 ∧ q = .int .i64 l ∧ Below w.heap.size w wr ∧ Hid (Mat wr w.heap.size (half (join M m) M k l)) ∧ Hid (Mat wr (w.heap.size + 1) (fun _ _ => false))) (fun q _ => 6 - (intOf q).toNat)
      case atStart => exact ⟨0, by omega, rfl, hbel, HM, HR⟩
      case round =>
        clear hbel HM HR
        obtain ⟨l, hl, rfl, hbel, HM, HR⟩ := hrel
        by_cases hll : l < 6
        · have ckl := HM.out.c k l (by omega) (by omega)
          have ckm := HM.out.c k m (by omega) (by omega)
          have cml := HM.out.c m l (by omega) (by omega)
          rw [half_here] at ckl
          rw [half_same (join_col M m k)] at ckm
          rw [half_same (join_row M m l)] at cml
          have zm := HM.out.z (k * 6 + l) (by omega)
          have k0 : (0 : Int) ≤ (k : Int) := by omega
          have k1 : (k : Int) < 6 := by omega
          have l0 : (0 : Int) ≤ (l : Int) := by omega
          have l1 : (l : Int) < 6 := by omega
          obtain ⟨x, hx⟩ : ∃ x, x = M k l := ⟨_, rfl⟩
          obtain ⟨y, hy⟩ : ∃ y, y = M k m := ⟨_, rfl⟩
          obtain ⟨z, hz⟩ : ∃ z, z = M m l := ⟨_, rfl⟩
          have HV : Hid (join M m k l = (x || (y && z))) := by show _ = _; rw [join, ← hx, ← hy, ← hz]
          have HX : Hid (x = M k l) := hx
          rw [← hx] at ckl
          rw [← hy] at ckm
          rw [← hz] at cml
          clear hx hy hz
          have HSAME : Hid (join M m k l = x → ∀ W, Mat W w.heap.size (half (join M m) M k l) → Mat W w.heap.size (half (join M m) M k (l + 1))) := by
            intro hj W hW
            rw [← half_step]
            refine hW.congr fun i j _ _ => ?_
            by_cases e : i = k ∧ j = l
            · obtain ⟨rfl, rfl⟩ := e
              rw [if_pos ⟨rfl, rfl⟩, half_here, hj]
              exact HX.out.symm
            · rw [if_neg e]
          cases y with
          | false =>
            go_wp2_with fail
            go_roundw
            case rel => exact ⟨l + 1, by omega, by go_num, hbel, HSAME.out (by rw [HV.out]; simp) _ HM.out, HR⟩
            case measure => simp [intOf]; omega
          | true =>
            cases z with
            | false =>
              go_wp2_with fail
              go_roundw
              case rel => exact ⟨l + 1, by omega, by go_num, hbel, HSAME.out (by rw [HV.out]; simp) _ HM.out, HR⟩
              case measure => simp [intOf]; omega
            | true =>
              go_wp2_with fail
              go_roundw
              case rel => exact ⟨l + 1, by omega, by go_num, hbel.setCell (by simp) _, mat_step HM.out (by omega) (by omega) (by rw [HV.out]; simp), HR.out.setOther _ e1⟩
              case measure => simp [intOf]; omega
        · go_wp2_with fail
          go_roundw
          case rel => exact ⟨k + 1, by omega, by go_num, hbel, HM.out.congr fun i j hi hj => by
            unfold half
            by_cases h1 : i < k
            · rw [if_pos (.inl h1), if_pos (by omega)]
            · by_cases h2 : i = k
              · rw [if_pos (by omega), if_pos (by omega)]
              · rw [if_neg (by omega), if_neg (by omega)], HR⟩
          case measure => simp [intOf]; omega
    · obtain rfl : k = 6 := by omega
      have HM6 : Hid (Mat _ w.heap.size (join M m)) := HM.out.congr fun i j hi hj => by
        unfold half
        rw [if_pos (.inl hi)]
      clear HM
      go_wp2_with (first | (refine loadW (by rfl) _ (by rfl) w.heap.size (by rfl) _ HM6.out ?_) | (refine storeW (by rfl) _ _ (by rfl) (w.heap.size + 1) _ _ (by rfl) (by rfl) HR.out ?_; intro w5 hb5 hz5 hk5 HR5))
      exact bodyPost_ret (resultW Try.results81 _ _ (w.heap.size + 1) _ rfl HR5) rfl ⟨rfl, hbel.trans (hb5.mono (by omega))⟩

set_option maxRecDepth 100000 in
set_option maxHeartbeats 4000000 in
theorem stepsP_is (b o : Nat) (G : Gph) (K : Nat → ByteArray) (f : ByteArray) (B S : Nat → Bool) (w : World) (HG : Hid (Wy w b o G K f B)) :
    Calls Try.prog 65 #[.pointer (some ⟨b, o, none⟩), .agg (six S)] w fun e w' => e = .returned (.agg (bools 36 (flat6 (stp G S 6))).toArray) ∧ Below w.heap.size w w' := by
  have hgl := HG.out.lt
  have e1 : w.heap.size ≠ w.heap.size + 1 + 1 := by omega
  have e2 : w.heap.size + 1 ≠ w.heap.size + 1 + 1 := by omega
  have e3 : b ≠ w.heap.size + 1 + 1 := by omega
  go_enter Try.func65, Try.ntmps65
  go_wp2_with fail
  go_loopw [6] (fun q wr => ∃ k : Nat, k ≤ 6 ∧ q = .int .i64 k ∧ Below w.heap.size w wr ∧ Hid (Arr wr w.heap.size 6 S) ∧ Hid (Mat wr (w.heap.size + 1) (fun _ _ => false)) ∧ Hid (Mat wr (w.heap.size + 1 + 1) (half (stp G S 0) (fun _ _ => false) k 0))) (fun q _ => 6 - (intOf q).toNat)
  case atStart =>
    refine ⟨0, by omega, rfl, below3 w _ _ _, ((arr_new w S 56).alloc _).alloc _, (mat_new (w.alloc _) 108 _ (by simp)).alloc _, ?_⟩
    exact (mat_new _ 108 _ (by simp)).congr fun i j _ _ => (half_none (todo := fun _ _ => false) i j).symm
  case round =>
    obtain ⟨k, hk, rfl, hbel, HA, HR, HM⟩ := hrel
    by_cases hlt : k < 6
    · go_wp2_with fail
      go_loopw [7] (fun q wr => ∃ l : Nat, l ≤ 6 ∧ q = .int .i64 l ∧ Below w.heap.size w wr ∧ Hid (Arr wr w.heap.size 6 S) ∧ Hid (Mat wr (w.heap.size + 1) (fun _ _ => false)) ∧ Hid (Mat wr (w.heap.size + 1 + 1) (half (stp G S 0) (fun _ _ => false) k l))) (fun q _ => 6 - (intOf q).toNat)
      case atStart => exact ⟨0, by omega, rfl, hbel, HA, HR, HM⟩
      case round =>
        clear hbel HA HR HM
        obtain ⟨l, hl, rfl, hbel, HA, HR, HM⟩ := hrel
        have HGr : Hid (Wy _ b o G K f B) := HG.out.below hbel hgl
        by_cases hll : l < 6
        · have ck := HA.out.c k (by omega)
          have cl := HA.out.c l (by omega)
          have ce := HGr.out.ce k l (by omega) (by omega)
          have cm := HM.out.c k l (by omega) (by omega)
          have zm := HM.out.z (k * 6 + l) (by omega)
          have k0 : (0 : Int) ≤ (k : Int) := by omega
          have k1 : (k : Int) < 6 := by omega
          have l0 : (0 : Int) ≤ (l : Int) := by omega
          have l1 : (l : Int) < 6 := by omega
          obtain ⟨x, hx⟩ : ∃ x, x = G.e k l := ⟨_, rfl⟩
          obtain ⟨y, hy⟩ : ∃ y, y = S k := ⟨_, rfl⟩
          obtain ⟨z, hz⟩ : ∃ z, z = S l := ⟨_, rfl⟩
          have HV : Hid (stp G S 0 k l = (x && y && z)) := by show _ = _; rw [stp, inE, ← hx, ← hy, ← hz]
          rw [← hx] at ce
          rw [← hy] at ck
          rw [← hz] at cl
          clear hx hy hz
          cases x with
          | false =>
            go_wp2_with fail
            go_region
            all_goals
              go_wp2
              go_roundw
              case rel => exact ⟨l + 1, by omega, by go_num, (hbel.setCell (by simp; omega) _).drew, (HA.out.setOther _ (Ne.symm e1)).drew, (HR.out.setOther _ (Ne.symm e2)).drew, (mat_step HM.out (by omega) (by omega) (by rw [HV.out]; simp)).drew⟩
              case measure => simp [intOf]; omega
          | true =>
            cases y with
            | false =>
              go_wp2_with fail
              go_region
              all_goals
                go_wp2
                go_roundw
                case rel => exact ⟨l + 1, by omega, by go_num, (hbel.setCell (by simp; omega) _).drew, (HA.out.setOther _ (Ne.symm e1)).drew, (HR.out.setOther _ (Ne.symm e2)).drew, (mat_step HM.out (by omega) (by omega) (by rw [HV.out]; simp)).drew⟩
                case measure => simp [intOf]; omega
            | true =>
              go_wp2_with fail
              go_region
              all_goals
                go_wp2
                go_roundw
                case rel => exact ⟨l + 1, by omega, by go_num, (hbel.setCell (by simp; omega) _).drew, (HA.out.setOther _ (Ne.symm e1)).drew, (HR.out.setOther _ (Ne.symm e2)).drew, (mat_step HM.out (by omega) (by omega) (by rw [HV.out]; simp)).drew⟩
                case measure => simp [intOf]; omega
        · go_wp2_with fail
          go_roundw
          case rel => exact ⟨k + 1, by omega, by go_num, hbel, HA, HR, HM.out.congr fun i j hi hj => by
            unfold half
            by_cases h1 : i < k
            · rw [if_pos (.inl h1), if_pos (by omega)]
            · by_cases h2 : i = k
              · rw [if_pos (by omega), if_pos (by omega)]
              · rw [if_neg (by omega), if_neg (by omega)]⟩
          case measure => simp [intOf]; omega
    · have HM6 : Hid (Mat _ (w.heap.size + 1 + 1) (stp G S 0)) := HM.out.congr fun i j hi hj => by
        unfold half
        rw [if_pos (.inl (by omega))]
      clear HM
      go_wp2_with fail
      clear HA
      go_loopw [8] (fun q wr => ∃ c : Nat, c ≤ 6 ∧ q = .int .i64 c ∧ Below w.heap.size w wr ∧ Hid (Mat wr (w.heap.size + 1) (fun _ _ => false)) ∧ Hid (Mat wr (w.heap.size + 1 + 1) (stp G S c))) (fun q _ => 6 - (intOf q).toNat)
      case atStart => exact ⟨0, by omega, rfl, hbel, HR, HM6⟩
      case round =>
        clear hbel HR HM6
        obtain ⟨c, hc, rfl, hbel, HR, HM⟩ := hrel
        by_cases hcl : c < 6
        · have HJ := fun W => joinedP_is (stp G S c) c hcl W
          have HE : Hid (join (stp G S c) c = stp G S (c + 1)) := by show _ = _; funext x y; rfl
          obtain ⟨N, hN⟩ : ∃ N, N = join (stp G S c) c := ⟨_, rfl⟩
          rw [← hN] at HJ HE
          clear hN
          go_wp2_with (first
            | (refine loadW (by rfl) _ (by rfl) (w.heap.size + 1 + 1) (by rfl) _ HM.out ?_)
            | (go_at_call 81; refine (HJ _).mono ?_; rintro e w4 ⟨rfl, hb4⟩)
            | (refine storeW (by rfl) _ _ (by rfl) (w.heap.size + 1 + 1) _ _ (by rfl) (by rfl) (HM.out.below hb4 HM.out.lt) ?_; intro w5 hb5 hz5 hk5 HM5))
          have hm5 : Mat w5 (w.heap.size + 1) (fun _ _ => false) := (HR.out.below hb4 HR.out.lt).below hb5 (by omega)
          go_roundw
          case rel => exact ⟨c + 1, by omega, by go_num, (Below.to hbel hb4).trans (hb5.mono (by omega)), hm5, by show Mat _ _ _; rw [← HE.out]; exact HM5⟩
          case measure => simp [intOf]; omega
        · obtain rfl : c = 6 := by omega
          go_wp2_with (first | (refine loadW (by rfl) _ (by rfl) (w.heap.size + 1 + 1) (by rfl) _ HM.out ?_) | (refine storeW (by rfl) _ _ (by rfl) (w.heap.size + 1) _ _ (by rfl) (by rfl) HR.out ?_; intro w5 hb5 hz5 hk5 HR5))
          exact bodyPost_ret (resultW Try.results65 _ _ (w.heap.size + 1) _ rfl HR5) rfl ⟨rfl, hbel.trans (hb5.mono (by omega))⟩

end Go.Proofs.Ytcfbfdjmcabnkaa

namespace Go.Proofs.Ytcfbfdjmcabnkaa
open Go.RowKit Fw
set_option linter.unusedVariables false

/-- the states to which one can come from a state, and back again -/
def ardP (T : Nat → Nat → Bool) (c d : Nat) : Bool := T c d && T d c

set_option maxRecDepth 100000 in
set_option maxHeartbeats 4000000 in
theorem aroundP_is (c : Nat) (M : Nat → Nat → Bool) (hc : c < 6) (w : World) :
    Calls Try.prog 87 #[.agg (bools 36 (flat6 M)).toArray, .int .i64 (c : Int)] w fun e w' => e = .returned (.agg (six (ardP M c))) ∧ Below w.heap.size w w' := by
  have HB0 := mat_box w M 108
  obtain ⟨C, hC⟩ : ∃ C, C = (bools 36 (flat6 M)).toArray := ⟨_, rfl⟩
  rw [← hC]
  rw [← hC] at HB0
  clear hC
  have HB : Hid (Mat (w.alloc (.cells C 108)) w.heap.size M) := HB0
  clear HB0
  have c0 : (0 : Int) ≤ (c : Int) := by omega
  have c1 : (c : Int) < 6 := by omega
  go_enter Try.func87, Try.ntmps87
  go_wp2_with fail
  go_loopw [6] (fun q wr => ∃ k : Nat, k ≤ 6 ∧ q = .int .i64 k ∧ Below w.heap.size w wr ∧ Hid (Mat wr w.heap.size M) ∧ Hid (Arr wr (w.heap.size + 1) 6 (fun _ => false)) ∧ Hid (Arr wr (w.heap.size + 1 + 1) 6 (upto k (ardP M c)))) (fun q _ => 6 - (intOf q).toNat)
  case atStart =>
    refine ⟨0, by omega, rfl, below3 w _ _ _, (HB.out.alloc _).alloc _, (arr_at (w.alloc _) (fun _ => false) 56 _ (by simp)).alloc _, ?_⟩
    show Arr _ _ _ _
    rw [upto_zero]
    exact arr_at _ (fun _ => false) 56 _ (by simp)
  case round =>
    clear HB
    obtain ⟨k, hk, rfl, hbel, HB, HR, HS⟩ := hrel
    have e1 : w.heap.size ≠ w.heap.size + 1 + 1 := by omega
    have e2 : w.heap.size + 1 ≠ w.heap.size + 1 + 1 := by omega
    by_cases hlt : k < 6
    · have cck := HB.out.c c k hc hlt
      have ckc := HB.out.c k c hlt hc
      have cs := HS.out.c k (by omega)
      have zs := HS.out.z k (by omega)
      have k0 : (0 : Int) ≤ (k : Int) := by omega
      have k1 : (k : Int) < 6 := by omega
      have HX : Hid (ardP M c k = (M c k && M k c)) := rfl
      obtain ⟨y, hy⟩ : ∃ y, y = M c k := ⟨_, rfl⟩
      obtain ⟨z, hz⟩ : ∃ z, z = M k c := ⟨_, rfl⟩
      rw [← hy] at cck
      rw [← hz] at ckc
      rw [← hy, ← hz] at HX
      clear hy hz
      cases y with
      | true =>
        go_wp2_with fail
        go_roundw
        case rel => exact ⟨k + 1, by omega, by go_num, hbel.setCell (by simp; omega) _, HB.out.setOther _ (Ne.symm e1), HR.out.setOther _ (Ne.symm e2), HS.out.next (by omega) _ (by rw [HX.out, Bool.true_and])⟩
        case measure => simp [intOf]; omega
      | false =>
        go_wp2_with fail
        go_roundw
        case rel => exact ⟨k + 1, by omega, by go_num, hbel.setCell (by simp; omega) _, HB.out.setOther _ (Ne.symm e1), HR.out.setOther _ (Ne.symm e2), HS.out.next (by omega) _ (by rw [HX.out, Bool.false_and])⟩
        case measure => simp [intOf]; omega
    · obtain rfl : k = 6 := by omega
      have HS6 : Hid (Arr _ (w.heap.size + 1 + 1) 6 (ardP M c)) := HS.out.congr fun j hj => by unfold upto; rw [if_pos hj]
      obtain ⟨F, hF⟩ : ∃ F, F = ardP M c := ⟨_, rfl⟩
      rw [← hF] at HS6
      have HFE : Hid (F = ardP M c) := hF
      clear hF
      go_wp2_with (first | (refine loadS (by rfl) _ (by rfl) (w.heap.size + 1 + 1) (by rfl) F HS6.out ?_) | (refine storeS (by rfl) _ _ (by rfl) (w.heap.size + 1) _ _ (by rfl) (by rfl) HR.out ?_; intro w5 hb5 hz5 hk5 HR5))
      exact bodyPost_ret (resultS Try.results87 _ _ (w.heap.size + 1) _ rfl HR5) rfl ⟨by rw [HFE.out], hbel.trans (hb5.mono (by omega))⟩

theorem yld36 {ops : Array Oper} {S : World → Prop} {op : Oper} {a : Act} (H : Nat) (L : List Value) (hl : L.length = 36) (hw : Region.wanted op (yielded ops a.tmps) = true) (x : Operand) (ho : op.op = .load 108 x) (hx : a.eval x = .pointer (some ⟨H, 0, none⟩)) (hS : ∀ w, S w → w.rangeAt H 0 L) : YieldsIf Try.prog ops S op (.agg L.toArray) a := by
  obtain ⟨d, hu, hd⟩ := Try.row108
  exact yieldsIf_load_mid hw 108 x ho H 0 hx L d hS hu hd (by rw [hl]; exact Try.size108)

def allP (G : Gph) (M : Nat → Nat → Bool) (c : Nat) (l : List UInt8) : Bool := (l.map (·.toNat)).all fun x => mts G M c x
theorem allP_nil (G : Gph) (M : Nat → Nat → Bool) (c : Nat) {s : ByteArray} {k : Nat} (h : s.size ≤ k) : allP G M c (tl s k) = true := by
  rw [tl_nil s k h]; rfl
theorem allP_cons (G : Gph) (M : Nat → Nat → Bool) (c : Nat) {s : ByteArray} {k : Nat} (h : k < s.size) : allP G M c (tl s k) = (mts G M c s[k].toNat && allP G M c (tl s (k + 1))) := by
  rw [tl_cons s k h]; rfl

/-! ### A set held against the empty one -/
theorem Try.arr56 : Try.prog.underlying 56 = some (.array 6 4) := Try.underlying56
theorem Try.bool4 : Try.prog.underlying 4 = some .bool := Try.underlying4
theorem Try.size4 : (Try.prog.info? 4).map (·.size) = some 1 := by kernel_rfl
theorem part6 (F : Nat → Bool) (i : Nat) (hi : i < 6) (W : World) : (Go.part 4 (six F) i).run Try.prog W = .ok (.bool (F i)) W := by
  have h1 : (six F)[i]? = some (.bool (F i)) := by
    have : i = 0 ∨ i = 1 ∨ i = 2 ∨ i = 3 ∨ i = 4 ∨ i = 5 := by omega
    rcases this with rfl | rfl | rfl | rfl | rfl | rfl <;> rfl
  simp [Go.part, isAgg, run_underlying Try.bool4, h1]
theorem items6 (F : Nat → Bool) (W : World) (d : Nat) : ∀ (is : List Nat), (∀ i ∈ is, i < 6) → (Op.eqItems (d + 1) 4 1 (six F) (six fun _ => false) is).run Try.prog W = .ok (!(is.any F)) W := by
  have he : ∀ a b, (Op.equalIn (d + 1) 4 (.bool a) (.bool b)).run Try.prog W = .ok (a == b) W := fun a b => by simp [Op.equalIn, run_underlying Try.bool4]
  intro is
  induction is with
  | nil => intro _; simp [Op.eqItems]
  | cons i is ih =>
    intro h
    have ih := ih fun x hx => h x (by simp [hx])
    simp only [Op.eqItems, Sem.run_bind, Nat.mul_one, part6 _ i (h i (by simp)), Result.andThen_ok, he]
    cases hF : F i
    · simp [hF, ih]
    · simp [hF]
theorem eq6 (F : Nat → Bool) (W : World) : (Op.equalIn 10000 56 (.agg (six F)) (.agg #[.bool false, .bool false, .bool false, .bool false, .bool false, .bool false])).run Try.prog W = .ok (!(any6 F)) W := by
  obtain ⟨i, hi, hs⟩ := Option.map_eq_some_iff.1 Try.size4
  have hc : Try.prog.cellsOf 4 = 1 := by kernel_rfl
  show (Op.equalIn (9999 + 1) 56 (.agg (six F)) (.agg (six fun _ => false))).run Try.prog W = .ok (!(any6 F)) W
  rw [run_equalIn_array (P := Try.prog) W 9999 _ _ Try.arr56 hi, hc]
  exact items6 F W 9998 _ (fun i hi => List.mem_range.1 hi)

end Go.Proofs.Ytcfbfdjmcabnkaa

namespace Go.Proofs.Ytcfbfdjmcabnkaa
open Go.RowKit Fw
set_option linter.unusedVariables false

set_option maxRecDepth 100000 in
set_option maxHeartbeats 4000000 in
theorem bearing_P (b o c : Nat) (G : Gph) (K : Nat → ByteArray) (f : ByteArray) (B : Nat → Bool) (w : World) (HG : Hid (Wy w b o G K f B)) :
    Calls Try.prog 72 #[.pointer (some ⟨b, o, none⟩), .int .u8 (c : Int)] w fun e w' => e = .returned (.agg (six fun j => G.m j c)) ∧ Below w.heap.size w w' := by
  have hgl := HG.out.lt
  go_enter Try.func72, Try.ntmps72
  go_wp2_with fail
  go_loopw [6] (fun q wr => ∃ k : Nat, k ≤ 6 ∧ q = .int .i64 k ∧ Below w.heap.size w wr ∧ Hid (Arr wr w.heap.size 6 (fun _ => false)) ∧ Hid (Arr wr (w.heap.size + 1) 6 (upto k fun j => G.m j c))) (fun q _ => 6 - (intOf q).toNat)
  case atStart =>
    refine ⟨0, by omega, rfl, below2S w _ _, (arr_new w (fun _ => false) 56).alloc _, ?_⟩
    show Arr _ _ _ _
    rw [upto_zero]
    exact arr_at _ (fun _ => false) 56 _ (by simp)
  case round =>
    obtain ⟨k, hk, rfl, hbel, HR, HS⟩ := hrel
    have HGr : Hid (Wy _ b o G K f B) := HG.out.below hbel hgl
    have e1 : w.heap.size ≠ w.heap.size + 1 := by omega
    by_cases hlt : k < 6
    · have cs := HS.out.c k (by omega)
      have zs := HS.out.z k (by omega)
      have k0 : (0 : Int) ≤ (k : Int) := by omega
      have k1 : (k : Int) < 6 := by omega
      have HBE := fun W (h : Hid (Wy W b o G K f B)) => bearsP_is b o k c G K f B W hlt h
      go_wp2_with (go_at_call 79; refine (HBE _ HGr).mono ?_; rintro e w1 ⟨rfl, rfl⟩)
      go_roundw
      case rel => exact ⟨k + 1, by omega, by go_num, hbel.setCell (by simp) _, HR.out.setOther _ (Ne.symm e1), HS.out.next (by omega) _ rfl⟩
      case measure => simp [intOf]; omega
    · obtain rfl : k = 6 := by omega
      go_wp2_with (first | (refine loadS (by rfl) _ (by rfl) (w.heap.size + 1) (by rfl) _ HS.out ?_) | (refine storeS (by rfl) _ _ (by rfl) w.heap.size _ _ (by rfl) (by rfl) HR.out ?_; intro w5 hb5 hz5 hk5 HR5))
      exact bodyPost_ret (resultS Try.results72 _ _ w.heap.size _ rfl HR5) rfl ⟨rfl, hbel.trans (hb5.mono (by omega))⟩


set_option maxRecDepth 100000 in
set_option maxHeartbeats 4000000 in
theorem roundP_is (b o c : Nat) (G : Gph) (K : Nat → ByteArray) (f : ByteArray) (B : Nat → Bool) (M : Nat → Nat → Bool) (hc : c < 6) (hf : f.size ≤ 1000) (w : World) (HG : Hid (Wy w b o G K f B)) :
    Calls Try.prog 83 #[.pointer (some ⟨b, o, none⟩), .agg (bools 36 (flat6 M)).toArray, .int .i64 (c : Int)] w fun e w' => e = .returned (.bool (rnd G (fsOf f) M c)) ∧ Below w.heap.size w w' := by
  have hgl := HG.out.lt
  have HB0 := mat_box w M 108
  have HAR := fun W => aroundP_is c M hc W
  obtain ⟨L, hL⟩ : ∃ L, L = bools 36 (flat6 M) := ⟨_, rfl⟩
  rw [← hL]
  rw [← hL] at HB0 HAR
  have HRG : Hid (∀ W bb, Mat W bb M → W.rangeAt bb 0 L) := by
    intro W bb h
    rw [hL]
    exact h.range
  have hl : L.length = 36 := by rw [hL, bools_len]
  clear hL
  have HB : Hid (Mat (w.alloc (.cells L.toArray 108)) w.heap.size M) := HB0
  clear HB0
  have hb1 : Below w.heap.size w (w.alloc (.cells L.toArray 108)) := (Below.refl _ _).alloc (Nat.le_refl _) _
  have c0 : (0 : Int) ≤ (c : Int) := by omega
  have c1 : (c : Int) < 6 := by omega
  have ccc := HB.out.c c c hc hc
  have HR : Hid (rnd G (fsOf f) M c = (M c c && allP G M c (tl f 0))) := rfl
  obtain ⟨y, hy⟩ : ∃ y, y = M c c := ⟨_, rfl⟩
  rw [← hy] at ccc HR
  clear hy
  have HMT : Hid (∀ x, mts G M c x = any6 (fun j => ardP M c j && G.m j x)) := fun x => rfl
  obtain ⟨R, hRR⟩ : ∃ R, R = ardP M c := ⟨_, rfl⟩
  rw [← hRR] at HAR HMT
  clear hRR
  go_enter Try.func83, Try.ntmps83
  cases y with
  | false =>
    go_wp2_with fail
    go_ret
    exact ⟨by rw [HR.out]; rfl, hb1⟩
  | true =>
    go_wp2_with (first
      | (refine loadT 108 36 Try.size108 Try.row108 (by rfl) _ (by rfl) w.heap.size (by rfl) L (HRG.out _ _ HB.out) hl ?_)
      | (go_at_call 87; refine (HAR _).mono ?_; rintro e w1 ⟨rfl, hbw⟩)
      | (refine storeS (by rfl) _ _ (by rfl) w1.heap.size (fun _ => false) R (by rfl) (by rfl) (arr_zero w1 56) ?_; intro w3 hb3 hz3 hk3 HL3))
    have hbel3 : Below w.heap.size w w3 := Below.to (Below.to hb1 hbw) (((Below.refl _ _).alloc (Nat.le_refl _) _).trans hb3)
    have HL3' : Hid (Arr w3 w1.heap.size 6 R) := HL3
    have q1 : w.heap.size < w1.heap.size := by have := hbw.size; simp at this; omega
    clear ccc HL3 hb3 hz3 hk3 hbw hb1 HB
    go_loopw [8] (fun q wr => ∃ k : Nat, k ≤ f.size ∧ q = .int .i64 k ∧ Below w.heap.size w wr ∧ Hid (Arr wr w1.heap.size 6 R) ∧ Hid (allP G M c (tl f k) = allP G M c (tl f 0))) (fun q _ => f.size - (intOf q).toNat)
    case atStart => exact ⟨0, by omega, rfl, hbel3, HL3', rfl⟩
    case round =>
      clear hbel3 HL3'
      obtain ⟨k, hk, rfl, hbel, HL, HF⟩ := hrel
      have HGr : Hid (Wy wr b o G K f B) := HG.out.below hbel hgl
      have cf := HGr.out.cf
      by_cases hlt : k < f.size
      · have HX : Hid (allP G M c (tl f 0) = (mts G M c f[k].toNat && allP G M c (tl f (k + 1)))) := by show _ = _; rw [← HF.out, allP_cons G M c hlt]
        rw [HMT.out] at HX
        have HBE := fun W (h : Hid (Wy W b o G K f B)) => bearing_P b o f[k].toNat G K f B W h
        obtain ⟨D, hD⟩ : ∃ D, D = fun j => G.m j f[k].toNat := ⟨_, rfl⟩
        rw [← hD] at HBE
        have HXD : Hid (allP G M c (tl f 0) = (any6 (fun j => R j && D j) && allP G M c (tl f (k + 1)))) := by rw [hD]; exact HX.out
        clear hD HX
        obtain ⟨E, hE⟩ : ∃ E, E = fun j => R j && D j := ⟨_, rfl⟩
        have HBO := fun W => bothP_is R D W
        rw [← hE] at HBO HXD
        clear hE
        have HK : Hid (∀ w', Below wr.heap.size wr w' → (fun w' => (w'.cell? ⟨w1.heap.size, 0, none⟩ = some (.bool (R 0)) ∧ w'.cell? ⟨w1.heap.size, 1, none⟩ = some (.bool (R 1)) ∧ w'.cell? ⟨w1.heap.size, 2, none⟩ = some (.bool (R 2)) ∧ w'.cell? ⟨w1.heap.size, 3, none⟩ = some (.bool (R 3)) ∧ w'.cell? ⟨w1.heap.size, 4, none⟩ = some (.bool (R 4)) ∧ w'.cell? ⟨w1.heap.size, 5, none⟩ = some (.bool (R 5))) ∧ w'.cell? ⟨b, o + 45, none⟩ = some (.string f)) w') := fun w' h => ⟨cells1 (HL.out.below h HL.out.lt), (HGr.out.below h HGr.out.lt).cf⟩
        have HEQ := eq6 E
        obtain ⟨y, hy⟩ : ∃ y, y = any6 E := ⟨_, rfl⟩
        rw [← hy] at HEQ HXD
        clear hy
        go_wp2_with fail
        go_region_held3 (fun w' => (w'.cell? ⟨w1.heap.size, 0, none⟩ = some (.bool (R 0)) ∧ w'.cell? ⟨w1.heap.size, 1, none⟩ = some (.bool (R 1)) ∧ w'.cell? ⟨w1.heap.size, 2, none⟩ = some (.bool (R 2)) ∧ w'.cell? ⟨w1.heap.size, 3, none⟩ = some (.bool (R 3)) ∧ w'.cell? ⟨w1.heap.size, 4, none⟩ = some (.bool (R 4)) ∧ w'.cell? ⟨w1.heap.size, 5, none⟩ = some (.bool (R 5))) ∧ w'.cell? ⟨b, o + 45, none⟩ = some (.string f)) (first
            | exact HK.out _ hc6
            | exact HK.out _ hc5
            | exact HK.out _ (Below.al hc5)
            | exact HK.out _ hc4
            | exact HK.out _ (Below.al hc4)
            | exact HK.out _ (Below.refl _ _).drew
            | exact HK.out _ (Below.al (Below.refl _ _).drew)) (first
          | (go_at_call 72; refine (HBE _ (by first | exact (HGr.out.below (Below.refl _ _).drew HGr.out.lt) | exact (HGr.out.below (Below.al (Below.refl _ _).drew) HGr.out.lt))).mono ?_; rintro e w4 ⟨rfl, hb4⟩
             have hc4 : Below wr.heap.size wr w4 := by first | exact Below.dr hb4 | exact Below.dr (Below.past hb4)
             first
               | (have HP4 : Hid (Arr w4 wr.heap.size 6 (fun _ => false)) := (arr_at wr.drew (fun _ => false) 56 _ rfl).below hb4 (by simp))
               | skip)
          | (go_at_call 68; refine (HBO _).mono ?_; rintro e w5 ⟨rfl, hb5⟩
             have hc5 : Below wr.heap.size wr w5 := by first | exact Below.to hc4 hb5 | exact Below.to hc4 (Below.past hb5)
             first
               | (have HP5 := (arr_at w4 (fun _ => false) 56 _ rfl).below hb5 (by simp)
                  obtain ⟨w6, hrun6, hb6, hz6, hk6, HR6⟩ := stores6 HP5 E)
               | (have HP5 := Arr.below HP4 hb5 (Arr.lt HP4)
                  obtain ⟨w6, hrun6, hb6, hz6, hk6, HR6⟩ := stores6 HP5 E)
               | (obtain ⟨w6, hrun6, hb6, hz6, hk6, HR6⟩ := stores6 (arr_zero w5 56) E)
             have hc6 : Below wr.heap.size wr w6 := by
               first
                 | exact hc5.trans (hb6.mono (by first | exact Nat.le_refl _ | exact hc4.size | exact hc5.size))
                 | exact (Below.al hc5).trans (hb6.mono (by first | exact Nat.le_refl _ | exact hc4.size | exact hc5.size))))
        all_goals
          have HP6 : Hid (Arr w6 _ 6 _) := HR6
          have HL6 : Hid (Arr w6 w1.heap.size 6 R) := HL.out.below hc6 HL.out.lt
          have hbel6 : Below w.heap.size w w6 := Below.to hbel hc6
          clear HK hrun6 hb6 hz6 hk6 HR6
          cases y with
          | false =>
            go_wp2_with (first
              | (refine loadS (by rfl) _ (by rfl) _ (by rfl) E HP6.out ?_))
            go_ret
            exact ⟨by rw [HR.out, HXD.out]; rfl, hbel6⟩
          | true =>
            go_wp2_with (first
              | (refine loadS (by rfl) _ (by rfl) _ (by rfl) E HP6.out ?_))
            go_roundw
            case rel => exact ⟨k + 1, by omega, by go_num, hbel6, HL6, by show _ = _; rw [HXD.out]; rfl⟩
            case measure => simp [intOf]; omega
      · go_wp2_with fail
        go_ret
        exact ⟨by rw [HR.out, ← HF.out, allP_nil G M c (by omega)]; rfl, hbel⟩

end Go.Proofs.Ytcfbfdjmcabnkaa

namespace Go.Proofs.Ytcfbfdjmcabnkaa
open Go.RowKit Fw
set_option linter.unusedVariables false

set_option maxRecDepth 100000 in
set_option maxHeartbeats 4000000 in
theorem roundsP_is (b o : Nat) (G : Gph) (K : Nat → ByteArray) (f : ByteArray) (B : Nat → Bool) (M : Nat → Nat → Bool) (hf : f.size ≤ 1000) (w : World) (HG : Hid (Wy w b o G K f B)) :
    Calls Try.prog 67 #[.pointer (some ⟨b, o, none⟩), .agg (bools 36 (flat6 M)).toArray] w fun e w' => e = .returned (.agg (six (rnd G (fsOf f) M))) ∧ Below w.heap.size w w' := by
  have hgl := HG.out.lt
  have HB0 := mat_box w M 108
  have HRO := fun (c : Nat) (hc : c < 6) W (h : Hid (Wy W b o G K f B)) => roundP_is b o c G K f B M hc hf W h
  obtain ⟨L, hL⟩ : ∃ L, L = bools 36 (flat6 M) := ⟨_, rfl⟩
  rw [← hL]
  rw [← hL] at HB0 HRO
  have HRG : Hid (∀ W bb, Mat W bb M → W.rangeAt bb 0 L) := by
    intro W bb h
    rw [hL]
    exact h.range
  have hl : L.length = 36 := by rw [hL, bools_len]
  clear hL
  have HB : Hid (Mat (w.alloc (.cells L.toArray 108)) w.heap.size M) := HB0
  clear HB0
  obtain ⟨F, hF⟩ : ∃ F, F = rnd G (fsOf f) M := ⟨_, rfl⟩
  have HFc : Hid (∀ c, rnd G (fsOf f) M c = F c) := fun c => by rw [hF]
  rw [← hF]
  clear hF
  go_enter Try.func67, Try.ntmps67
  go_wp2_with fail
  go_loopw [6] (fun q wr => ∃ i : Nat, i ≤ 6 ∧ q = .int .i64 i ∧ Below w.heap.size w wr ∧ Hid (Mat wr w.heap.size M) ∧ Hid (Arr wr (w.heap.size + 1) 6 (fun _ => false)) ∧ Hid (Arr wr (w.heap.size + 1 + 1) 6 (upto i F))) (fun q _ => 6 - (intOf q).toNat)
  case atStart =>
    refine ⟨0, by omega, rfl, below3 w _ _ _, (HB.out.alloc _).alloc _, (arr_at (w.alloc _) (fun _ => false) 56 _ (by simp)).alloc _, ?_⟩
    show Arr _ _ _ _
    rw [upto_zero]
    exact arr_at _ (fun _ => false) 56 _ (by simp)
  case round =>
    clear HB
    obtain ⟨i, hi, rfl, hbel, HM, HR, HS⟩ := hrel
    by_cases hlt : i < 6
    · have HGr : Hid (Wy _ b o G K f B) := HG.out.below hbel hgl
      have i0 : (0 : Int) ≤ (i : Int) := by omega
      have i1 : (i : Int) < 6 := by omega
      have cs := HS.out.c i (by omega)
      have zs := HS.out.z i (by omega)
      have HC := HRO i hlt
      rw [HFc.out i] at HC
      go_wp2_with (first
        | (refine loadT 108 36 Try.size108 Try.row108 (by rfl) _ (by rfl) w.heap.size (by rfl) L (HRG.out _ _ HM.out) hl ?_)
        | (go_at_call 83; refine (HC _ HGr).mono ?_; rintro e w4 ⟨rfl, hb4⟩
           have cs4 := (hb4.cell (p := ⟨w.heap.size + 1 + 1, i, none⟩) HS.out.lt).trans cs
           have zs4 := (hb4.frozen (p := ⟨w.heap.size + 1 + 1, i, none⟩) HS.out.lt).trans zs))
      go_roundw
      case rel => exact ⟨i + 1, by omega, by go_num, (Below.to hbel hb4).setCell (by simp; omega) _, (HM.out.below hb4 HM.out.lt).setOther _ (by simp; omega), (HR.out.below hb4 HR.out.lt).setOther _ (by simp), (HS.out.below hb4 HS.out.lt).next (by omega) _ rfl⟩
      case measure => simp [intOf]; omega
    · obtain rfl : i = 6 := by omega
      have HS6 : Hid (Arr _ (w.heap.size + 1 + 1) 6 F) := HS.out.congr fun j hj => by unfold upto; rw [if_pos hj]
      go_wp2_with (first
        | (refine loadS (by rfl) _ (by rfl) (w.heap.size + 1 + 1) (by rfl) F HS6.out ?_)
        | (refine storeS (by rfl) _ _ (by rfl) (w.heap.size + 1) _ _ (by rfl) (by rfl) HR.out ?_; intro w5 hb5 hz5 hk5 HR5))
      exact bodyPost_ret (resultS Try.results67 _ _ (w.heap.size + 1) _ rfl HR5) rfl ⟨rfl, hbel.trans (hb5.mono (by omega))⟩

set_option maxRecDepth 100000 in
set_option maxHeartbeats 4000000 in
theorem stayingP_is (b o : Nat) (G : Gph) (K : Nat → ByteArray) (f : ByteArray) (B S : Nat → Bool) (hf : f.size ≤ 1000) (w : World) (HG : Hid (Wy w b o G K f B)) :
    Calls Try.prog 46 #[.pointer (some ⟨b, o, none⟩), .agg (six S)] w fun e w' => e = .returned (.agg (six (stayP G (fsOf f) S))) ∧ Below w.heap.size w w' := by
  have hgl := HG.out.lt
  have HA0 : Hid (Arr ((w.alloc (.cells (six S) 56)).alloc (.cells (six fun _ => false) 56)) w.heap.size 6 S) := (arr_new w S 56).alloc _
  have HR0 : Hid (Arr ((w.alloc (.cells (six S) 56)).alloc (.cells (six fun _ => false) 56)) (w.heap.size + 1) 6 (fun _ => false)) := arr_at _ _ 56 _ (by simp)
  have hb0 := below2S w (.cells (six S) 56) (.cells (six fun _ => false) 56)
  have HG0 : Hid (Wy _ b o G K f B) := HG.out.below hb0 hgl
  have HST := fun W (h : Hid (Wy W b o G K f B)) => stepsP_is b o G K f B S W h
  have HSP : Hid (stayP G (fsOf f) S = rea G.e S (rnd G (fsOf f) (stp G S 6)) 5) := rfl
  obtain ⟨M, hM⟩ : ∃ M, M = stp G S 6 := ⟨_, rfl⟩
  rw [← hM] at HST HSP
  clear hM
  have HRO := fun W (h : Hid (Wy W b o G K f B)) => roundsP_is b o G K f B M hf W h
  obtain ⟨F, hF⟩ : ∃ F, F = rnd G (fsOf f) M := ⟨_, rfl⟩
  rw [← hF] at HSP HRO
  clear hF
  have HRE := fun W (h : Hid (Wy W b o G K f B)) => reachingP_is b o G K f B S F W h
  rw [← HSP.out] at HRE
  obtain ⟨D, hD⟩ : ∃ D, D = stayP G (fsOf f) S := ⟨_, rfl⟩
  rw [← hD] at HSP HRE
  rw [← hD]
  clear hD
  go_enter Try.func46, Try.ntmps46
  go_wp2_with (first
    | (refine loadS (by rfl) _ (by rfl) w.heap.size (by rfl) S HA0.out ?_)
    | (go_at_call 65; refine (HST _ HG0).mono ?_; rintro e w1 ⟨rfl, hb1⟩)
    | (refine storeW (by rfl) _ _ (by rfl) w1.heap.size (fun _ _ => false) M (by rfl) (by rfl) (mat_new w1 108 _ rfl) ?_; intro w3 hb3 hz3 hk3 HM3))
  have HA1 : Hid (Arr w1 w.heap.size 6 S) := HA0.out.below hb1 HA0.out.lt
  have HR1 : Hid (Arr w1 (w.heap.size + 1) 6 (fun _ => false)) := HR0.out.below hb1 HR0.out.lt
  have hbel1 : Below w.heap.size w w1 := Below.to hb0 hb1
  have hb13 : Below w1.heap.size w1 w3 := ((Below.refl _ _).alloc (Nat.le_refl _) _).trans hb3
  have HA3 : Hid (Arr w3 w.heap.size 6 S) := HA1.out.below hb13 HA1.out.lt
  have HR3 : Hid (Arr w3 (w.heap.size + 1) 6 (fun _ => false)) := HR1.out.below hb13 HR1.out.lt
  have hbel3 : Below w.heap.size w w3 := Below.to hbel1 hb13
  have HM3' : Hid (Mat w3 w1.heap.size M) := HM3
  have q1 : w.heap.size + 1 < w1.heap.size := HR1.out.lt
  have q2 : w3.heap.size = w1.heap.size + 1 := by rw [hz3]; simp
  clear HM3 hb3 hz3 hk3 HA1 HR1 HA0 HR0 HG0 hb0 hb1 hb13 hbel1
  obtain ⟨L, hL⟩ : ∃ L, L = bools 36 (flat6 M) := ⟨_, rfl⟩
  rw [← hL] at HRO
  have HRG : Hid (∀ W bb, Mat W bb M → W.rangeAt bb 0 L) := by
    intro W bb h
    rw [hL]
    exact h.range
  have hl : L.length = 36 := by rw [hL, bools_len]
  have HLE : Hid (L = bools 36 (flat6 M)) := hL
  clear hL
  have HG3 : Hid (Wy w3 b o G K f B) := HG.out.below hbel3 hgl
  refine wp_region_held_drew (S := (fun w' => (w'.cell? ⟨w.heap.size, 0, none⟩ = some (.bool (S 0)) ∧ w'.cell? ⟨w.heap.size, 1, none⟩ = some (.bool (S 1)) ∧ w'.cell? ⟨w.heap.size, 2, none⟩ = some (.bool (S 2)) ∧ w'.cell? ⟨w.heap.size, 3, none⟩ = some (.bool (S 3)) ∧ w'.cell? ⟨w.heap.size, 4, none⟩ = some (.bool (S 4)) ∧ w'.cell? ⟨w.heap.size, 5, none⟩ = some (.bool (S 5))) ∧ w'.rangeAt w1.heap.size 0 L)) (by kernel_rfl) ⟨cells1 HA3.out.drew, HRG.out _ _ HM3'.out.drew⟩ (fun hHeld => ?_)
  refine wpAnyH_take (i := 3) rfl (by kernel_rfl) (by kernel_rfl) (by kernel_rfl) (fun _ _ _ h => h) (yld36 w1.heap.size L hl (by rfl) _ (by rfl) (by rfl) (fun _ h => h.2)) hHeld ?_
  simp only [Act.put, List.setIfInBounds_toArray]
  refine wpAnyH_take (i := 0) (v := ?v1) rfl (by kernel_rfl) (by kernel_rfl) (by kernel_rfl) (fun _ _ _ h => h) (Or.inl ⟨by rfl, ?hy1⟩) hHeld ?rest1
  case hy1 =>
    intro W hW
    obtain ⟨⟨hW0, hW1, hW2, hW3, hW4, hW5⟩, hWr⟩ := hW
    go_simp
    try with_reducible rfl
  simp only [Act.put]
  refine wpAnyH_take (i := 1) (v := ?v2) rfl (by kernel_rfl) (by kernel_rfl) (by kernel_rfl) (fun _ _ _ h => h) (Or.inl ⟨by rfl, ?hy2⟩) hHeld ?rest2
  case hy2 =>
    intro W hW
    obtain ⟨⟨hW0, hW1, hW2, hW3, hW4, hW5⟩, hWr⟩ := hW
    go_simp
    try with_reducible rfl
  simp only [Act.put]
  refine wpAnyH_take (i := 2) (v := ?v3) rfl (by kernel_rfl) (by kernel_rfl) (by kernel_rfl) (fun _ _ _ h => h) (Or.inl ⟨by rfl, ?hy3⟩) hHeld ?rest3
  case hy3 =>
    intro W hW
    obtain ⟨⟨hW0, hW1, hW2, hW3, hW4, hW5⟩, hWr⟩ := hW
    go_simp
    try with_reducible rfl
  simp only [Act.put]
  refine wpAnyH_ready (rs := [4]) (by kernel_rfl) (by simp) ?_
  refine AllReadyH.cons rfl (fun KK hKK => ?_) AllReadyH.nil
  go_simp
  refine (HRO _ (show Hid _ from HG3.out.drew)).mono ?_
  rintro e w4 ⟨rfl, hb4⟩
  have hc4 : Below w3.heap.size w3 w4 := Below.dr hb4
  have HA4 : Hid (Arr w4 w.heap.size 6 S) := HA3.out.below hc4 HA3.out.lt
  have HM4 : Hid (Mat w4 w1.heap.size M) := HM3'.out.below hc4 HM3'.out.lt
  have HG4 : Hid (Wy w4 b o G K f B) := HG3.out.below hc4 HG3.out.lt
  clear hHeld
  go_wp2_with fail
  refine hKK.out _ _ ⟨cells1 HA4.out, HRG.out _ _ HM4.out⟩ (fun hHeld => ?_)
  clear hKK KK
  refine wpAnyH_ready (rs := [5]) (by kernel_rfl) (by simp) ?_
  refine AllReadyH.cons rfl (fun KK hKK => ?_) AllReadyH.nil
  go_simp
  refine (HRE _ HG4).mono ?_
  rintro e w5 ⟨rfl, hb5⟩
  have hc5 : Below w3.heap.size w3 w5 := Below.to hc4 hb5
  have HA5 : Hid (Arr w5 w.heap.size 6 S) := HA3.out.below hc5 HA3.out.lt
  have HM5 : Hid (Mat w5 w1.heap.size M) := HM3'.out.below hc5 HM3'.out.lt
  have HR5 : Hid (Arr w5 (w.heap.size + 1) 6 (fun _ => false)) := HR3.out.below hc5 HR3.out.lt
  obtain ⟨w6, hrun6, hb6, hz6, hk6, HR6'⟩ := stores6 HR5.out D
  have HR6 : Hid (Arr w6 (w.heap.size + 1) 6 D) := HR6'
  have HA6 : Hid (Arr w6 w.heap.size 6 S) := HA5.out.otherK hz6 hk6 (by omega)
  have HM6 : Hid (∀ o, o < 36 → w6.cell? ⟨w1.heap.size, o, none⟩ = w5.cell? ⟨w1.heap.size, o, none⟩) := fun o _ => World.cell?_of_block (w := w5) (hk6 _ (by show w1.heap.size ≠ w.heap.size + 1; omega))
  have HM7 : Hid (w6.rangeAt w1.heap.size 0 L) := by
    intro j v hv
    have hj := (List.getElem?_eq_some_iff.1 hv).1
    have := HRG.out _ _ HM5.out j v hv
    rw [Nat.zero_add] at this ⊢
    rw [HM6.out j (by omega)]
    exact this
  clear HR6' hHeld
  go_wp2_with fail
  refine hKK.out _ _ ⟨cells1 HA5.out, HRG.out _ _ HM5.out⟩ (fun hHeld => ?_)
  clear hKK KK
  refine wpAnyH_ready (rs := [6]) (by kernel_rfl) (by simp) ?_
  refine AllReadyH.cons rfl (fun KK hKK => ?_) AllReadyH.nil
  go_simp
  refine hKK.out _ _ ⟨cells1 HA6.out, HM7.out⟩ (fun hHeld => ?_)
  clear hKK KK
  refine wpAnyH_done (by kernel_rfl) ?_ _
  go_wp2_with fail
  exact bodyPost_ret (resultS Try.results46 _ _ (w.heap.size + 1) _ rfl HR6.out) rfl ⟨rfl, (Below.to hbel3 hc5).trans (hb6.mono (by omega))⟩

end Go.Proofs.Ytcfbfdjmcabnkaa

