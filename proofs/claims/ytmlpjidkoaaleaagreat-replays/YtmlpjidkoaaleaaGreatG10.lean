import Derived.Test.YtmlpjidkoaaleaaGreatG8
import Derived.Test.YtmlpjidkoaaleaaGreatG1
namespace Go.Proofs.YtmlpjidkoaaleaaGreat
open Go.RowKit Fw
set_option linter.unusedVariables false

/-! ### The program's sets and tables as values -/
theorem Tryz.size65 : (Tryz.prog.info? 65).map (·.size) = some 6 := by kernel_rfl
theorem Tryz.row65 : ∃ d, Tryz.prog.underlying 65 = some d ∧ d.isRow = true := ⟨_, Tryz.underlying65, rfl⟩
theorem Tryz.size149 : (Tryz.prog.info? 149).map (·.size) = some 36 := by kernel_rfl
theorem Tryz.row149 : ∃ d, Tryz.prog.underlying 149 = some d ∧ d.isRow = true := ⟨_, Tryz.underlying149, rfl⟩

theorem loadS {ops : Array Oper} {rest : List Oper} {op : Oper} {a : Act} {w : World} {Q : Exit → Act → World → Prop} (hgd : op.guard = none) (x : Operand) (ho : op.op = .load 65 x)
    (b : Nat) (hx : a.eval x = .pointer (some ⟨b, 0, none⟩)) (f : Nat → Bool) (hc : Arr w b 6 f)
    (h : wpList Tryz.prog ops Q rest (a.put op.dst (.agg (six f))) w) : wpList Tryz.prog ops Q (op :: rest) a w :=
  loadT 65 6 Tryz.size65 Tryz.row65 hgd x ho b hx _ hc.range (bools_len _ _) h
theorem storeS {ops : Array Oper} {rest : List Oper} {op : Oper} {a : Act} {w : World} {Q : Exit → Act → World → Prop} (hgd : op.guard = none) (x y : Operand) (ho : op.op = .store 65 x y)
    (b : Nat) (f g : Nat → Bool) (hx : a.eval x = .pointer (some ⟨b, 0, none⟩)) (hy : a.eval y = .agg (six g)) (hc : Arr w b 6 f)
    (h : ∀ w', Below b w w' → w'.heap.size = w.heap.size → (∀ k, k ≠ b → w'.heap[k]? = w.heap[k]?) → Arr w' b 6 g → wpList Tryz.prog ops Q rest (a.put op.dst undef) w') : wpList Tryz.prog ops Q (op :: rest) a w := by
  refine wpList_store_mid hgd 65 x y ho b 0 (six g) hx hy hc.there Tryz.size65 (bools_one 6 g) ?_
  have hr : (w.setCells b 0 (six g).toList).rangeAt b 0 (bools 6 g) := World.rangeAt_setCells_same w b 0 (six g).toList hc.there
  refine h _ (below_setCellsT b _ _ _) (size_setCellsT b _ _ _) (block_setCellsT b _ _ _) (arr_of_range ?_ hr ?_)
  · rw [size_setCellsT]; exact hc.lt
  · intro o ho
    rw [World.frozen?_setCells]
    exact hc.z o ho
theorem loadW {ops : Array Oper} {rest : List Oper} {op : Oper} {a : Act} {w : World} {Q : Exit → Act → World → Prop} (hgd : op.guard = none) (x : Operand) (ho : op.op = .load 149 x)
    (b : Nat) (hx : a.eval x = .pointer (some ⟨b, 0, none⟩)) (M : Nat → Nat → Bool) (hc : Mat w b M)
    (h : wpList Tryz.prog ops Q rest (a.put op.dst (.agg (bools 36 (flat6 M)).toArray)) w) : wpList Tryz.prog ops Q (op :: rest) a w :=
  loadT 149 36 Tryz.size149 Tryz.row149 hgd x ho b hx _ hc.range (bools_len _ _) h
theorem storeW {ops : Array Oper} {rest : List Oper} {op : Oper} {a : Act} {w : World} {Q : Exit → Act → World → Prop} (hgd : op.guard = none) (x y : Operand) (ho : op.op = .store 149 x y)
    (b : Nat) (M N : Nat → Nat → Bool) (hx : a.eval x = .pointer (some ⟨b, 0, none⟩)) (hy : a.eval y = .agg (bools 36 (flat6 N)).toArray) (hc : Mat w b M)
    (h : ∀ w', Below b w w' → w'.heap.size = w.heap.size → (∀ k, k ≠ b → w'.heap[k]? = w.heap[k]?) → Mat w' b N → wpList Tryz.prog ops Q rest (a.put op.dst undef) w') : wpList Tryz.prog ops Q (op :: rest) a w := by
  refine wpList_store_mid hgd 149 x y ho b 0 (bools 36 (flat6 N)).toArray hx hy (by rw [bools_size]; exact hc.there) (by rw [bools_size]; exact Tryz.size149) (bools_one 36 _) ?_
  have hr : (w.setCells b 0 (bools 36 (flat6 N)).toArray.toList).rangeAt b 0 (bools 36 (flat6 N)) := World.rangeAt_setCells_same w b 0 (bools 36 (flat6 N)).toArray.toList (by rw [Array.length_toList, bools_size]; exact hc.there)
  refine h _ (below_setCellsT b _ _ _) (size_setCellsT b _ _ _) (block_setCellsT b _ _ _) (mat_of_range ?_ hr ?_)
  · rw [size_setCellsT]; exact hc.lt
  · intro o ho
    rw [World.frozen?_setCells]
    exact hc.z o ho
theorem resultS {fn : Func} {p : Nat} (hf : fn.results = #[.cell p 65]) (tmps : Array Value) (w : World) (b : Nat) (f : Nat → Bool) (hp : tmps.getD p undef = .pointer (some ⟨b, 0, none⟩)) (hc : Arr w b 6 f) :
    (results fn tmps).run Tryz.prog w = .ok (.agg (six f)) w := resultT hf Tryz.size65 Tryz.row65 tmps w b (bools 6 f) hp hc.range (bools_len _ _)
theorem resultW {fn : Func} {p : Nat} (hf : fn.results = #[.cell p 149]) (tmps : Array Value) (w : World) (b : Nat) (M : Nat → Nat → Bool) (hp : tmps.getD p undef = .pointer (some ⟨b, 0, none⟩)) (hc : Mat w b M) :
    (results fn tmps).run Tryz.prog w = .ok (.agg (bools 36 (flat6 M)).toArray) w := resultT hf Tryz.size149 Tryz.row149 tmps w b (bools 36 (flat6 M)) hp hc.range (bools_len _ _)

set_option maxRecDepth 100000 in
set_option maxHeartbeats 1000000 in
theorem othersP_is (a : Nat → Bool) (w : World) :
    Calls Tryz.prog 77 #[.agg (six a)] w fun e w' => e = .returned (.agg (six fun j => !(a j))) ∧ Below w.heap.size w w' := by
  go_enter Tryz.func77, Tryz.ntmps77
  go_wp2_with fail
  go_loopw [4] (fun q wr => ∃ k : Nat, k ≤ 6 ∧ q = .int .i64 k ∧ Below w.heap.size w wr ∧ Hid (Arr wr w.heap.size 6 a) ∧ Hid (Arr wr (w.heap.size + 1) 6 (fun _ => false)) ∧ Hid (Arr wr (w.heap.size + 1 + 1) 6 (upto k fun j => !(a j)))) (fun q _ => 6 - (intOf q).toNat)
  case atStart =>
    refine ⟨0, by omega, rfl, below3 w _ _ _, ((arr_new w a 65).alloc _).alloc _, (arr_at (w.alloc _) (fun _ => false) 65 _ (by simp)).alloc _, ?_⟩
    show Arr _ _ _ _
    rw [upto_zero]
    exact arr_at _ (fun _ => false) 65 _ (by simp)
  case round =>
    obtain ⟨k, hk, rfl, hbel, HA, HR, HS⟩ := hrel
    have e1 : w.heap.size ≠ w.heap.size + 1 + 1 := by omega
    have e2 : w.heap.size + 1 ≠ w.heap.size + 1 + 1 := by omega
    by_cases hlt : k < 6
    · have ca := HA.out.c k (by omega)
      have cs := HS.out.c k (by omega)
      have zs := HS.out.z k (by omega)
      have k0 : (0 : Int) ≤ (k : Int) := by omega
      have k1 : (k : Int) < 6 := by omega
      go_wp2_with fail
      go_roundw
      case rel => exact ⟨k + 1, by omega, by go_num, hbel.setCell (by simp; omega) _, HA.out.setOther _ (Ne.symm e1), HR.out.setOther _ (Ne.symm e2), HS.out.next (by omega) _ rfl⟩
      case measure => simp [intOf]; omega
    · obtain rfl : k = 6 := by omega
      go_wp2_with (first | (refine loadS (by rfl) _ (by rfl) (w.heap.size + 1 + 1) (by rfl) _ HS.out ?_) | (refine storeS (by rfl) _ _ (by rfl) (w.heap.size + 1) _ _ (by rfl) (by rfl) HR.out ?_; intro w5 hb5 hz5 hk5 HR5))
      exact bodyPost_ret (resultS Tryz.results77 _ _ (w.heap.size + 1) _ rfl HR5) rfl ⟨rfl, hbel.trans (hb5.mono (by omega))⟩

set_option maxRecDepth 100000 in
set_option maxHeartbeats 1000000 in
theorem bothP_is (a b : Nat → Bool) (w : World) :
    Calls Tryz.prog 101 #[.agg (six a), .agg (six b)] w fun e w' => e = .returned (.agg (six fun j => a j && b j)) ∧ Below w.heap.size w w' := by
  go_enter Tryz.func101, Tryz.ntmps101
  go_wp2_with fail
  go_loopw [6] (fun q wr => ∃ k : Nat, k ≤ 6 ∧ q = .int .i64 k ∧ Below w.heap.size w wr ∧ Hid (Arr wr w.heap.size 6 a) ∧ Hid (Arr wr (w.heap.size + 1) 6 b) ∧ Hid (Arr wr (w.heap.size + 1 + 1) 6 (fun _ => false)) ∧ Hid (Arr wr (w.heap.size + 1 + 1 + 1) 6 (upto k fun j => a j && b j))) (fun q _ => 6 - (intOf q).toNat)
  case atStart =>
    refine ⟨0, by omega, rfl, below4 w _ _ _ _, (((arr_new w a 65).alloc _).alloc _).alloc _, ((arr_at (w.alloc _) b 65 _ (by simp)).alloc _).alloc _, (arr_at _ (fun _ => false) 65 _ (by simp)).alloc _, ?_⟩
    show Arr _ _ _ _
    rw [upto_zero]
    exact arr_at _ (fun _ => false) 65 _ (by simp)
  case round =>
    obtain ⟨k, hk, rfl, hbel, HA, HB, HR, HS⟩ := hrel
    have e1 : w.heap.size ≠ w.heap.size + 1 + 1 + 1 := by omega
    have e2 : w.heap.size + 1 ≠ w.heap.size + 1 + 1 + 1 := by omega
    have e3 : w.heap.size + 1 + 1 ≠ w.heap.size + 1 + 1 + 1 := by omega
    by_cases hlt : k < 6
    · have ca := HA.out.c k (by omega)
      have cb := HB.out.c k (by omega)
      have cs := HS.out.c k (by omega)
      have zs := HS.out.z k (by omega)
      have k0 : (0 : Int) ≤ (k : Int) := by omega
      have k1 : (k : Int) < 6 := by omega
      cases hak : a k with
      | true =>
        rw [hak] at ca
        have HK : Hid (a k = true) := hak
        clear hak
        go_wp2_with fail
        go_roundw
        case rel => exact ⟨k + 1, by omega, by go_num, hbel.setCell (by simp; omega) _, HA.out.setOther _ (Ne.symm e1), HB.out.setOther _ (Ne.symm e2), HR.out.setOther _ (Ne.symm e3), HS.out.next (by omega) _ (by rw [HK.out, Bool.true_and])⟩
        case measure => simp [intOf]; omega
      | false =>
        rw [hak] at ca
        have HK : Hid (a k = false) := hak
        clear hak
        go_wp2_with fail
        go_roundw
        case rel => exact ⟨k + 1, by omega, by go_num, hbel.setCell (by simp; omega) _, HA.out.setOther _ (Ne.symm e1), HB.out.setOther _ (Ne.symm e2), HR.out.setOther _ (Ne.symm e3), HS.out.next (by omega) _ (by rw [HK.out, Bool.false_and])⟩
        case measure => simp [intOf]; omega
    · obtain rfl : k = 6 := by omega
      go_wp2_with (first | (refine loadS (by rfl) _ (by rfl) (w.heap.size + 1 + 1 + 1) (by rfl) _ HS.out ?_) | (refine storeS (by rfl) _ _ (by rfl) (w.heap.size + 1 + 1) _ _ (by rfl) (by rfl) HR.out ?_; intro w5 hb5 hz5 hk5 HR5))
      exact bodyPost_ret (resultS Tryz.results101 _ _ (w.heap.size + 1 + 1) _ rfl HR5) rfl ⟨rfl, hbel.trans (hb5.mono (by omega))⟩

set_option maxRecDepth 100000 in
set_option maxHeartbeats 1000000 in
theorem eitherP_is (a b : Nat → Bool) (w : World) :
    Calls Tryz.prog 102 #[.agg (six a), .agg (six b)] w fun e w' => e = .returned (.agg (six fun j => a j || b j)) ∧ Below w.heap.size w w' := by
  go_enter Tryz.func102, Tryz.ntmps102
  go_wp2_with fail
  go_loopw [6] (fun q wr => ∃ k : Nat, k ≤ 6 ∧ q = .int .i64 k ∧ Below w.heap.size w wr ∧ Hid (Arr wr w.heap.size 6 a) ∧ Hid (Arr wr (w.heap.size + 1) 6 b) ∧ Hid (Arr wr (w.heap.size + 1 + 1) 6 (fun _ => false)) ∧ Hid (Arr wr (w.heap.size + 1 + 1 + 1) 6 (upto k fun j => a j || b j))) (fun q _ => 6 - (intOf q).toNat)
  case atStart =>
    refine ⟨0, by omega, rfl, below4 w _ _ _ _, (((arr_new w a 65).alloc _).alloc _).alloc _, ((arr_at (w.alloc _) b 65 _ (by simp)).alloc _).alloc _, (arr_at _ (fun _ => false) 65 _ (by simp)).alloc _, ?_⟩
    show Arr _ _ _ _
    rw [upto_zero]
    exact arr_at _ (fun _ => false) 65 _ (by simp)
  case round =>
    obtain ⟨k, hk, rfl, hbel, HA, HB, HR, HS⟩ := hrel
    have e1 : w.heap.size ≠ w.heap.size + 1 + 1 + 1 := by omega
    have e2 : w.heap.size + 1 ≠ w.heap.size + 1 + 1 + 1 := by omega
    have e3 : w.heap.size + 1 + 1 ≠ w.heap.size + 1 + 1 + 1 := by omega
    by_cases hlt : k < 6
    · have ca := HA.out.c k (by omega)
      have cb := HB.out.c k (by omega)
      have cs := HS.out.c k (by omega)
      have zs := HS.out.z k (by omega)
      have k0 : (0 : Int) ≤ (k : Int) := by omega
      have k1 : (k : Int) < 6 := by omega
      cases hak : a k with
      | true =>
        rw [hak] at ca
        have HK : Hid (a k = true) := hak
        clear hak
        go_wp2_with fail
        go_roundw
        case rel => exact ⟨k + 1, by omega, by go_num, hbel.setCell (by simp; omega) _, HA.out.setOther _ (Ne.symm e1), HB.out.setOther _ (Ne.symm e2), HR.out.setOther _ (Ne.symm e3), HS.out.next (by omega) _ (by rw [HK.out, Bool.true_or])⟩
        case measure => simp [intOf]; omega
      | false =>
        rw [hak] at ca
        have HK : Hid (a k = false) := hak
        clear hak
        go_wp2_with fail
        go_roundw
        case rel => exact ⟨k + 1, by omega, by go_num, hbel.setCell (by simp; omega) _, HA.out.setOther _ (Ne.symm e1), HB.out.setOther _ (Ne.symm e2), HR.out.setOther _ (Ne.symm e3), HS.out.next (by omega) _ (by rw [HK.out, Bool.false_or])⟩
        case measure => simp [intOf]; omega
    · obtain rfl : k = 6 := by omega
      go_wp2_with (first | (refine loadS (by rfl) _ (by rfl) (w.heap.size + 1 + 1 + 1) (by rfl) _ HS.out ?_) | (refine storeS (by rfl) _ _ (by rfl) (w.heap.size + 1 + 1) _ _ (by rfl) (by rfl) HR.out ?_; intro w5 hb5 hz5 hk5 HR5))
      exact bodyPost_ret (resultS Tryz.results102 _ _ (w.heap.size + 1 + 1) _ rfl HR5) rfl ⟨rfl, hbel.trans (hb5.mono (by omega))⟩

end Go.Proofs.YtmlpjidkoaaleaaGreat

namespace Go.Proofs.YtmlpjidkoaaleaaGreat
open Go.RowKit Fw
set_option linter.unusedVariables false

/-- from cell o of block b on: a graph as the program keeps it, the fair marks behind it, and a set behind these -/
structure Wy (w : World) (b o : Nat) (G : Gph) (K : Nat → ByteArray) (f : ByteArray) (B : Nat → Bool) : Prop where
  lt : b < w.heap.size
  n6 : G.n ≤ 6
  cn : w.cell? ⟨b, o + 2, none⟩ = some (.int .i64 (G.n : Int))
  cm : ∀ i, i < 6 → w.cell? ⟨b, o + 3 + i, none⟩ = some (.string (K i))
  ce : ∀ i j, i < 6 → j < 6 → w.cell? ⟨b, o + 9 + i * 6 + j, none⟩ = some (.bool (G.e i j))
  cf : w.cell? ⟨b, o + 45, none⟩ = some (.string f)
  cb : ∀ i, i < 6 → w.cell? ⟨b, o + 46 + i, none⟩ = some (.bool (B i))
  ks : ∀ i, (K i).size ≤ 1000
  mm : ∀ i c, i < 6 → (G.m i c = true ↔ ∃ d ∈ (K i).data.toList, d.toNat = c)

theorem Wy.below {w w' : World} {b o k : Nat} {G : Gph} {K : Nat → ByteArray} {f : ByteArray} {B : Nat → Bool} (h : Wy w b o G K f B) (hb : Below k w w') (hk : b < k) : Wy w' b o G K f B :=
  ⟨Nat.lt_of_lt_of_le h.lt hb.size, h.n6, (hb.cell (p := ⟨b, o + 2, none⟩) hk).trans h.cn, fun i hi => (hb.cell (p := ⟨b, o + 3 + i, none⟩) hk).trans (h.cm i hi), fun i j hi hj => (hb.cell (p := ⟨b, o + 9 + i * 6 + j, none⟩) hk).trans (h.ce i j hi hj), (hb.cell (p := ⟨b, o + 45, none⟩) hk).trans h.cf, fun i hi => (hb.cell (p := ⟨b, o + 46 + i, none⟩) hk).trans (h.cb i hi), h.ks, h.mm⟩

set_option maxRecDepth 100000 in
set_option maxHeartbeats 1000000 in
theorem bearsP_is (b o i c : Nat) (G : Gph) (K : Nat → ByteArray) (f : ByteArray) (B : Nat → Bool) (w : World) (hi : i < 6) (HG : Hid (Wy w b o G K f B)) :
    Calls Tryz.prog 111 #[.pointer (some ⟨b, o, none⟩), .int .i64 (i : Int), .int .u8 (c : Int)] w fun e w' => e = .returned (.bool (G.m i c)) ∧ w' = w := by
  have hm := HG.out.cm i hi
  obtain ⟨s, hs⟩ : ∃ s, s = K i := ⟨_, rfl⟩
  have hsz : s.size ≤ 1000 := by rw [hs]; exact HG.out.ks i
  rw [← hs] at hm
  have HB : Hid (G.m i c = decide (findc c (tl s 0) < s.size)) := by
    show _ = _
    rw [Bool.eq_iff_iff, HG.out.mm i c hi, ← hs, decide_eq_true_eq, tlS]
    have := findc_lt c s.data.toList
    rw [← this]
    have e : s.size = s.data.toList.length := by
      show s.data.size = _
      rw [Array.length_toList]
    rw [e]
  have k0 : (0 : Int) ≤ (i : Int) := by omega
  have k1 : (i : Int) < 6 := by omega
  clear hs
  go_enter Tryz.func111, Tryz.ntmps111
  go_wp2_with fail
  go_loop [8] (fun q => ∃ k : Nat, k ≤ s.size ∧ q = .int .i64 k ∧ Hid (k + findc c (tl s k) = findc c (tl s 0))) (fun q => s.size - (intOf q).toNat)
  case atStart => exact ⟨0, by omega, rfl, by show _ = _; simp⟩
  case round =>
    obtain ⟨k, hk, rfl, HF⟩ := hrel
    by_cases hlt : k < s.size
    · by_cases hc : s[k].toNat = c
      · have hc' : ((s[k].toNat : Int) == (c : Int)) = true := by rw [beq_iff_eq]; omega
        have HZ : Hid (findc c (tl s k) = 0) := findc_yes hlt hc
        clear hc
        go_wp2_with fail
        go_ret
        have h := HF.out
        rw [HZ.out] at h
        have hv : G.m i c = true := by rw [HB.out, decide_eq_true_eq]; omega
        exact ⟨by rw [hv]; rfl, rfl⟩
      · have hc' : ((s[k].toNat : Int) == (c : Int)) = false := by rw [beq_eq_false_iff_ne]; omega
        have HZ : Hid (findc c (tl s k) = findc c (tl s (k + 1)) + 1) := findc_no hlt hc
        go_wp2_with fail
        go_round
        case rel =>
          refine ⟨k + 1, by omega, by go_num, ?_⟩
          have h := HF.out
          rw [HZ.out] at h
          show _ = _
          omega
        case measure => simp [intOf]; omega
    · go_wp2_with fail
      go_ret
      have h := HF.out
      rw [findc_end (by omega)] at h
      have hv : G.m i c = false := by rw [HB.out, decide_eq_false_iff_not]; omega
      exact ⟨by rw [hv]; rfl, rfl⟩

theorem ahd_any (e : Nat → Nat → Bool) (a : Nat → Bool) (i : Nat) : anyU (fun j => e i j && a j) 6 = ahd e a i := rfl

set_option maxRecDepth 100000 in
set_option maxHeartbeats 2000000 in
theorem aheadP_is (b o : Nat) (G : Gph) (K : Nat → ByteArray) (f : ByteArray) (B a : Nat → Bool) (w : World) (HG : Hid (Wy w b o G K f B)) :
    Calls Tryz.prog 114 #[.pointer (some ⟨b, o, none⟩), .agg (six a)] w fun e w' => e = .returned (.agg (six (ahd G.e a))) ∧ Below w.heap.size w w' := by
  have hgl := HG.out.lt
  have e1 : w.heap.size ≠ w.heap.size + 1 + 1 := by omega
  have e2 : w.heap.size + 1 ≠ w.heap.size + 1 + 1 := by omega
  have e3 : b ≠ w.heap.size + 1 + 1 := by omega
  obtain ⟨F, hF⟩ : ∃ F, F = ahd G.e a := ⟨_, rfl⟩
  have HF : Hid (∀ i, anyU (fun j => G.e i j && a j) 6 = F i) := by intro i; rw [hF]; rfl
  rw [← hF]
  clear hF
  go_enter Tryz.func114, Tryz.ntmps114
  go_wp2_with fail
  go_loopw [6] (fun q wr => ∃ k : Nat, k ≤ 6 ∧ q = .int .i64 k ∧ Below w.heap.size w wr ∧ Hid (Arr wr w.heap.size 6 a) ∧ Hid (Arr wr (w.heap.size + 1) 6 (fun _ => false)) ∧ Hid (Arr wr (w.heap.size + 1 + 1) 6 (upto k F))) (fun q _ => 6 - (intOf q).toNat)
  case atStart =>
    refine ⟨0, by omega, rfl, below3 w _ _ _, ((arr_new w a 65).alloc _).alloc _, (arr_at (w.alloc _) (fun _ => false) 65 _ (by simp)).alloc _, ?_⟩
    show Arr _ _ _ _
    rw [upto_zero]
    exact arr_at _ (fun _ => false) 65 _ (by simp)
  case round =>
    obtain ⟨k, hk, rfl, hbel, HA, HR, HS⟩ := hrel
    by_cases hlt : k < 6
    · go_wp2_with fail
      go_loopw [7] (fun q wr => ∃ l : Nat, l ≤ 6 ∧ q = .int .i64 l ∧ Below w.heap.size w wr ∧ Hid (Arr wr w.heap.size 6 a) ∧ Hid (Arr wr (w.heap.size + 1) 6 (fun _ => false)) ∧ Hid (Arr wr (w.heap.size + 1 + 1) 6 (part k F (anyU (fun j => G.e k j && a j) l)))) (fun q _ => 6 - (intOf q).toNat)
      case atStart => exact ⟨0, by omega, rfl, hbel, HA, HR, HS.out.partIn⟩
      case round =>
        clear hbel HA HR HS
        obtain ⟨l, hl, rfl, hbel, HA, HR, HS⟩ := hrel
        by_cases hll : l < 6
        · have HGr : Hid (Wy _ b o G K f B) := HG.out.below hbel hgl
          have ca := HA.out.c l (by omega)
          have ce := HGr.out.ce k l (by omega) (by omega)
          have cs := HS.out.c k (by omega)
          have zs := HS.out.z k (by omega)
          have k0 : (0 : Int) ≤ (k : Int) := by omega
          have k1 : (k : Int) < 6 := by omega
          have l0 : (0 : Int) ≤ (l : Int) := by omega
          have l1 : (l : Int) < 6 := by omega
          have HX : Hid (anyU (fun j => G.e k j && a j) (l + 1) = (anyU (fun j => G.e k j && a j) l || (G.e k l && a l))) := anyU_succ _ _
          obtain ⟨x, hx⟩ : ∃ x, x = G.e k l := ⟨_, rfl⟩
          obtain ⟨y, hy⟩ : ∃ y, y = a l := ⟨_, rfl⟩
          rw [← hx] at ce HX
          rw [← hy] at ca HX
          clear hx hy
          cases x with
          | false =>
            go_wp2_with fail
            go_roundw
            case rel => exact ⟨l + 1, by omega, by go_num, hbel, HA, HR, by show Arr _ _ _ _; rw [HX.out, Bool.false_and, Bool.or_false]; exact HS.out⟩
            case measure => simp [intOf]; omega
          | true =>
            cases y with
            | false =>
              go_wp2_with fail
              go_roundw
              case rel => exact ⟨l + 1, by omega, by go_num, hbel, HA, HR, by show Arr _ _ _ _; rw [HX.out, Bool.and_false, Bool.or_false]; exact HS.out⟩
              case measure => simp [intOf]; omega
            | true =>
              go_wp2_with fail
              go_roundw
              case rel => exact ⟨l + 1, by omega, by go_num, hbel.setCell (by simp; omega) _, HA.out.setOther _ (Ne.symm e1), HR.out.setOther _ (Ne.symm e2), HS.out.part (by omega) _ _ (by rw [HX.out, Bool.and_true, Bool.or_true])⟩
              case measure => simp [intOf]; omega
        · obtain rfl : l = 6 := by omega
          go_wp2_with fail
          go_roundw
          case rel => exact ⟨k + 1, by omega, by go_num, hbel, HA, HR, HS.out.partOut (HF.out k)⟩
          case measure => simp [intOf]; omega
    · obtain rfl : k = 6 := by omega
      go_wp2_with (first | (refine loadS (by rfl) _ (by rfl) (w.heap.size + 1 + 1) (by rfl) _ HS.out ?_) | (refine storeS (by rfl) _ _ (by rfl) (w.heap.size + 1) _ _ (by rfl) (by rfl) HR.out ?_; intro w5 hb5 hz5 hk5 HR5))
      exact bodyPost_ret (resultS Tryz.results114 _ _ (w.heap.size + 1) _ rfl HR5) rfl ⟨rfl, hbel.trans (hb5.mono (by omega))⟩

end Go.Proofs.YtmlpjidkoaaleaaGreat

namespace Go.Proofs.YtmlpjidkoaaleaaGreat
open Go.RowKit Fw
set_option linter.unusedVariables false

theorem Wy.drew {w : World} {b o : Nat} {G : Gph} {K : Nat → ByteArray} {f : ByteArray} {B : Nat → Bool} (h : Wy w b o G K f B) : Wy w.drew b o G K f B := ⟨h.lt, h.n6, h.cn, h.cm, h.ce, h.cf, h.cb, h.ks, h.mm⟩

set_option maxRecDepth 100000 in
set_option maxHeartbeats 4000000 in
theorem reachingP_is (b o : Nat) (G : Gph) (K : Nat → ByteArray) (f : ByteArray) (B S T : Nat → Bool) (w : World) (HG : Hid (Wy w b o G K f B)) :
    Calls Tryz.prog 100 #[.pointer (some ⟨b, o, none⟩), .agg (six S), .agg (six T)] w fun e w' => e = .returned (.agg (six (rea G.e S T 5))) ∧ Below w.heap.size w w' := by
  have hgl := HG.out.lt
  have HA0 : Hid (Arr ((((w.alloc (.cells (six S) 65)).alloc (.cells (six T) 65)).alloc (.cells (six fun _ => false) 65)).alloc (.cells (six fun _ => false) 65)) w.heap.size 6 S) := (((arr_new w S 65).alloc _).alloc _).alloc _
  have HT0 : Hid (Arr (((w.alloc (.cells (six S) 65)).alloc (.cells (six T) 65)).alloc (.cells (six fun _ => false) 65)) (w.heap.size + 1) 6 T) := (arr_at _ _ 65 _ (by simp)).alloc _
  have HR0 : Hid (Arr ((((w.alloc (.cells (six S) 65)).alloc (.cells (six T) 65)).alloc (.cells (six fun _ => false) 65)).alloc (.cells (six fun _ => false) 65)) (w.heap.size + 1 + 1) 6 (fun _ => false)) := (arr_at _ _ 65 _ (by simp)).alloc _
  have hb0 := below4 w (.cells (six S) 65) (.cells (six T) 65) (.cells (six fun _ => false) 65) (.cells (six fun _ => false) 65)
  have HAH := fun (C : Nat → Bool) w' (h : Hid (Wy w' b o G K f B)) => aheadP_is b o G K f B C w' h
  go_enter Tryz.func100, Tryz.ntmps100
  go_wp2_with (first
    | (refine loadS (by rfl) _ (by rfl) (w.heap.size + 1) (by rfl) T HT0.out ?_)
    | (refine storeS (by rfl) _ _ (by rfl) (w.heap.size + 1 + 1 + 1) (fun _ => false) T (by rfl) (by rfl) (arr_at _ (fun _ => false) 65 _ (by simp)) ?_; intro w3 hb3 hz3 hk3 HL3))
  have HA3 : Hid (Arr w3 w.heap.size 6 S) := HA0.out.below hb3 (by omega)
  have HR3 : Hid (Arr w3 (w.heap.size + 1 + 1) 6 (fun _ => false)) := HR0.out.below hb3 (by omega)
  have hbel3 : Below w.heap.size w w3 := hb0.trans (hb3.mono (by omega))
  have HL3' : Hid (Arr w3 (w.heap.size + 1 + 1 + 1) 6 T) := HL3
  clear HL3 hb3 hz3 hk3 HA0 HT0 HR0 hb0
  go_loopw [8] (fun q wr => ∃ k : Nat, k ≤ 5 ∧ q = .int .i64 ((k + 1 : Nat) : Int) ∧ Below w.heap.size w wr ∧ Hid (Arr wr w.heap.size 6 S) ∧ Hid (Arr wr (w.heap.size + 1 + 1) 6 (fun _ => false)) ∧ Hid (Arr wr (w.heap.size + 1 + 1 + 1) 6 (rea G.e S T k))) (fun q _ => 6 - (intOf q).toNat)
  case atStart => exact ⟨0, by omega, rfl, hbel3, HA3, HR3, HL3'⟩
  case round =>
    clear hbel3 HA3 HR3 HL3'
    obtain ⟨k, hk, rfl, hbel, HA, HR, HL⟩ := hrel
    by_cases hlt : k < 5
    · have hlt' : ((k : Int) + 1) < 6 := by omega
      obtain ⟨C, hC⟩ : ∃ C, C = rea G.e S T k := ⟨_, rfl⟩
      have HN : Hid ((fun j => C j || (S j && ahd G.e C j)) = rea G.e S T (k + 1)) := by rw [hC]; rfl
      rw [← hC] at HL
      clear hC
      have HAHC := HAH C
      obtain ⟨D, hD⟩ : ∃ D, D = ahd G.e C := ⟨_, rfl⟩
      rw [← hD] at HAHC HN
      clear hD
      obtain ⟨c0, c1, c2, c3, c4, c5⟩ := cells1 HL.out
      go_wp2_with fail
      obtain ⟨s0, s1, s2, s3, s4, s5⟩ := cells1 HA.out
      go_region_with (first
        | (go_at_call 114; refine (HAHC _ (HG.out.below hbel.drew hgl)).mono ?_; rintro e w4 ⟨rfl, hb4⟩
           have HA4 : Hid (Arr w4 w.heap.size 6 S) := HA.out.drew.below hb4 HA.out.drew.lt
           have HL4 : Hid (Arr w4 (w.heap.size + 1 + 1 + 1) 6 C) := HL.out.drew.below hb4 HL.out.drew.lt
           have HR4 : Hid (Arr w4 (w.heap.size + 1 + 1) 6 (fun _ => false)) := HR.out.drew.below hb4 HR.out.drew.lt
           have hbel4 : Below w.heap.size w w4 := Below.to hbel.drew hb4
           obtain ⟨c40, c41, c42, c43, c44, c45⟩ := cells1 HL4.out
           obtain ⟨s40, s41, s42, s43, s44, s45⟩ := cells1 HA4.out)
        | (go_at_call 101; refine (bothP_is S D _).mono ?_; rintro e w5 ⟨rfl, hb5⟩
           have HA5 : Hid (Arr w5 w.heap.size 6 S) := HA4.out.below hb5 HA4.out.lt
           have HL5 : Hid (Arr w5 (w.heap.size + 1 + 1 + 1) 6 C) := HL4.out.below hb5 HL4.out.lt
           have HR5 : Hid (Arr w5 (w.heap.size + 1 + 1) 6 (fun _ => false)) := HR4.out.below hb5 HR4.out.lt
           have hbel5 : Below w.heap.size w w5 := Below.to hbel4 hb5
           obtain ⟨c50, c51, c52, c53, c54, c55⟩ := cells1 HL5.out)
        | (go_at_call 102; refine (eitherP_is C (fun j => S j && D j) _).mono ?_; rintro e w6 ⟨rfl, hb6⟩
           have HA6 : Hid (Arr w6 w.heap.size 6 S) := HA5.out.below hb6 HA5.out.lt
           have HL6 : Hid (Arr w6 (w.heap.size + 1 + 1 + 1) 6 C) := HL5.out.below hb6 HL5.out.lt
           have HR6 : Hid (Arr w6 (w.heap.size + 1 + 1) 6 (fun _ => false)) := HR5.out.below hb6 HR5.out.lt
           have hbel6 : Below w.heap.size w w6 := Below.to hbel5 hb6
           obtain ⟨w7, hrun7, hb7, hz7, hk7, HL7'⟩ := stores6 HL6.out (fun j => C j || (S j && D j))
           have HA7 : Hid (Arr w7 w.heap.size 6 S) := HA6.out.otherK hz7 hk7 (by omega)
           have HR7 : Hid (Arr w7 (w.heap.size + 1 + 1) 6 (fun _ => false)) := HR6.out.otherK hz7 hk7 (by omega)
           have HL7 : Hid (Arr w7 (w.heap.size + 1 + 1 + 1) 6 (fun j => C j || (S j && D j))) := HL7'
           have hbel7 : Below w.heap.size w w7 := hbel6.trans (hb7.mono (by omega))
           clear HL7'))
      all_goals
        go_wp2_with fail
        go_roundw
        case rel => exact ⟨k + 1, by omega, by go_num, hbel7, HA7, HR7, by show Arr _ _ _ _; rw [← HN.out]; exact HL7.out⟩
        case measure => simp [intOf]; omega
    · obtain rfl : k = 5 := by omega
      go_wp2_with (first | (refine loadS (by rfl) _ (by rfl) (w.heap.size + 1 + 1 + 1) (by rfl) _ HL.out ?_) | (refine storeS (by rfl) _ _ (by rfl) (w.heap.size + 1 + 1) _ _ (by rfl) (by rfl) HR.out ?_; intro w5 hb5 hz5 hk5 HR5))
      exact bodyPost_ret (resultS Tryz.results100 _ _ (w.heap.size + 1 + 1) _ rfl HR5) rfl ⟨rfl, hbel.trans (hb5.mono (by omega))⟩

end Go.Proofs.YtmlpjidkoaaleaaGreat

namespace Go.Proofs.YtmlpjidkoaaleaaGreat
open Go.RowKit Fw
set_option linter.unusedVariables false

/-- a table with what goes by way of m -/
def join (M : Nat → Nat → Bool) (m : Nat) : Nat → Nat → Bool := fun a b => M a b || (M a m && M m b)
theorem join_col (M : Nat → Nat → Bool) (m a : Nat) : join M m a m = M a m := by unfold join; cases M a m <;> simp
theorem join_row (M : Nat → Nat → Bool) (m b : Nat) : join M m m b = M m b := by unfold join; cases M m b <;> simp

set_option maxRecDepth 100000 in
set_option maxHeartbeats 4000000 in
theorem joinedP_is (M : Nat → Nat → Bool) (m : Nat) (hm : m < 6) (w : World) :
    Calls Tryz.prog 112 #[.agg (bools 36 (flat6 M)).toArray, .int .i64 (m : Int)] w fun e w' => e = .returned (.agg (bools 36 (flat6 (join M m))).toArray) ∧ Below w.heap.size w w' := by
  have HB0 := mat_box w M 149
  obtain ⟨C, hC⟩ : ∃ C, C = (bools 36 (flat6 M)).toArray := ⟨_, rfl⟩
  rw [← hC]
  rw [← hC] at HB0
  clear hC
  have HB : Hid (Mat (w.alloc (.cells C 149)) w.heap.size M) := HB0
  clear HB0
  have m0 : (0 : Int) ≤ (m : Int) := by omega
  have m1 : (m : Int) < 6 := by omega
  have e1 : w.heap.size ≠ w.heap.size + 1 := by omega
  go_enter Tryz.func112, Tryz.ntmps112
  go_wp2_with fail
  go_loopw [5] (fun q wr => ∃ k : Nat, k ≤ 6 ∧ q = .int .i64 k ∧ Below w.heap.size w wr ∧ Hid (Mat wr w.heap.size (half (join M m) M k 0)) ∧ Hid (Mat wr (w.heap.size + 1) (fun _ _ => false))) (fun q _ => 6 - (intOf q).toNat)
  case atStart =>
    exact ⟨0, by omega, rfl, below2S w _ _, (HB.out.alloc _).congr fun i j _ _ => (half_none i j).symm, mat_new (w.alloc _) 149 _ (by simp)⟩
  case round =>
    clear HB
    obtain ⟨k, hk, rfl, hbel, HM, HR⟩ := hrel
    by_cases hlt : k < 6
    · go_wp2_with fail
      go_loopw [6] (fun q wr => ∃ l : Nat, l ≤ 6 ∧ q = .int .i64 l ∧ Below w.heap.size w wr ∧ Hid (Mat wr w.heap.size (half (join M m) M k l)) ∧ Hid (Mat wr (w.heap.size + 1) (fun _ _ => false))) (fun q _ => 6 - (intOf q).toNat)
      case atStart => exact ⟨0, by omega, rfl, hbel, HM, HR⟩
      case round =>
        clear hbel HM HR
        obtain ⟨l, hl, rfl, hbel, HM, HR⟩ := hrel
        by_cases hll : l < 6
        · have ckl := HM.out.c k l (by omega) (by omega)
          have ckm := HM.out.c k m (by omega) (by omega)
          have cml := HM.out.c m l (by omega) (by omega)
          rw [half_here] at ckl
          rw [half_same (join_col M m k)] at ckm
          rw [half_same (join_row M m l)] at cml
          have zm := HM.out.z (k * 6 + l) (by omega)
          have k0 : (0 : Int) ≤ (k : Int) := by omega
          have k1 : (k : Int) < 6 := by omega
          have l0 : (0 : Int) ≤ (l : Int) := by omega
          have l1 : (l : Int) < 6 := by omega
          obtain ⟨x, hx⟩ : ∃ x, x = M k l := ⟨_, rfl⟩
          obtain ⟨y, hy⟩ : ∃ y, y = M k m := ⟨_, rfl⟩
          obtain ⟨z, hz⟩ : ∃ z, z = M m l := ⟨_, rfl⟩
          have HV : Hid (join M m k l = (x || (y && z))) := by show _ = _; rw [join, ← hx, ← hy, ← hz]
          have HX : Hid (x = M k l) := hx
          rw [← hx] at ckl
          rw [← hy] at ckm
          rw [← hz] at cml
          clear hx hy hz
          have HSAME : Hid (join M m k l = x → ∀ W, Mat W w.heap.size (half (join M m) M k l) → Mat W w.heap.size (half (join M m) M k (l + 1))) := by
            intro hj W hW
            rw [← half_step]
            refine hW.congr fun i j _ _ => ?_
            by_cases e : i = k ∧ j = l
            · obtain ⟨rfl, rfl⟩ := e
              rw [if_pos ⟨rfl, rfl⟩, half_here, hj]
              exact HX.out.symm
            · rw [if_neg e]
          cases y with
          | false =>
            go_wp2_with fail
            go_roundw
            case rel => exact ⟨l + 1, by omega, by go_num, hbel, HSAME.out (by rw [HV.out]; simp) _ HM.out, HR⟩
            case measure => simp [intOf]; omega
          | true =>
            cases z with
            | false =>
              go_wp2_with fail
              go_roundw
              case rel => exact ⟨l + 1, by omega, by go_num, hbel, HSAME.out (by rw [HV.out]; simp) _ HM.out, HR⟩
              case measure => simp [intOf]; omega
            | true =>
              go_wp2_with fail
              go_roundw
              case rel => exact ⟨l + 1, by omega, by go_num, hbel.setCell (by simp) _, mat_step HM.out (by omega) (by omega) (by rw [HV.out]; simp), HR.out.setOther _ e1⟩
              case measure => simp [intOf]; omega
        · go_wp2_with fail
          go_roundw
          case rel => exact ⟨k + 1, by omega, by go_num, hbel, HM.out.congr fun i j hi hj => by
            unfold half
            by_cases h1 : i < k
            · rw [if_pos (.inl h1), if_pos (by omega)]
            · by_cases h2 : i = k
              · rw [if_pos (by omega), if_pos (by omega)]
              · rw [if_neg (by omega), if_neg (by omega)], HR⟩
          case measure => simp [intOf]; omega
    · obtain rfl : k = 6 := by omega
      have HM6 : Hid (Mat _ w.heap.size (join M m)) := HM.out.congr fun i j hi hj => by
        unfold half
        rw [if_pos (.inl hi)]
      clear HM
      go_wp2_with (first | (refine loadW (by rfl) _ (by rfl) w.heap.size (by rfl) _ HM6.out ?_) | (refine storeW (by rfl) _ _ (by rfl) (w.heap.size + 1) _ _ (by rfl) (by rfl) HR.out ?_; intro w5 hb5 hz5 hk5 HR5))
      exact bodyPost_ret (resultW Tryz.results112 _ _ (w.heap.size + 1) _ rfl HR5) rfl ⟨rfl, hbel.trans (hb5.mono (by omega))⟩

set_option maxRecDepth 100000 in
set_option maxHeartbeats 4000000 in
theorem stepsP_is (b o : Nat) (G : Gph) (K : Nat → ByteArray) (f : ByteArray) (B S : Nat → Bool) (w : World) (HG : Hid (Wy w b o G K f B)) :
    Calls Tryz.prog 98 #[.pointer (some ⟨b, o, none⟩), .agg (six S)] w fun e w' => e = .returned (.agg (bools 36 (flat6 (stp G S 6))).toArray) ∧ Below w.heap.size w w' := by
  have hgl := HG.out.lt
  have e1 : w.heap.size ≠ w.heap.size + 1 + 1 := by omega
  have e2 : w.heap.size + 1 ≠ w.heap.size + 1 + 1 := by omega
  have e3 : b ≠ w.heap.size + 1 + 1 := by omega
  go_enter Tryz.func98, Tryz.ntmps98
  go_wp2_with fail
  go_loopw [6] (fun q wr => ∃ k : Nat, k ≤ 6 ∧ q = .int .i64 k ∧ Below w.heap.size w wr ∧ Hid (Arr wr w.heap.size 6 S) ∧ Hid (Mat wr (w.heap.size + 1) (fun _ _ => false)) ∧ Hid (Mat wr (w.heap.size + 1 + 1) (half (stp G S 0) (fun _ _ => false) k 0))) (fun q _ => 6 - (intOf q).toNat)
  case atStart =>
    refine ⟨0, by omega, rfl, below3 w _ _ _, ((arr_new w S 65).alloc _).alloc _, (mat_new (w.alloc _) 149 _ (by simp)).alloc _, ?_⟩
    exact (mat_new _ 149 _ (by simp)).congr fun i j _ _ => (half_none (todo := fun _ _ => false) i j).symm
  case round =>
    obtain ⟨k, hk, rfl, hbel, HA, HR, HM⟩ := hrel
    by_cases hlt : k < 6
    · go_wp2_with fail
      go_loopw [7] (fun q wr => ∃ l : Nat, l ≤ 6 ∧ q = .int .i64 l ∧ Below w.heap.size w wr ∧ Hid (Arr wr w.heap.size 6 S) ∧ Hid (Mat wr (w.heap.size + 1) (fun _ _ => false)) ∧ Hid (Mat wr (w.heap.size + 1 + 1) (half (stp G S 0) (fun _ _ => false) k l))) (fun q _ => 6 - (intOf q).toNat)
      case atStart => exact ⟨0, by omega, rfl, hbel, HA, HR, HM⟩
      case round =>
        clear hbel HA HR HM
        obtain ⟨l, hl, rfl, hbel, HA, HR, HM⟩ := hrel
        have HGr : Hid (Wy _ b o G K f B) := HG.out.below hbel hgl
        by_cases hll : l < 6
        · have ck := HA.out.c k (by omega)
          have cl := HA.out.c l (by omega)
          have ce := HGr.out.ce k l (by omega) (by omega)
          have cm := HM.out.c k l (by omega) (by omega)
          have zm := HM.out.z (k * 6 + l) (by omega)
          have k0 : (0 : Int) ≤ (k : Int) := by omega
          have k1 : (k : Int) < 6 := by omega
          have l0 : (0 : Int) ≤ (l : Int) := by omega
          have l1 : (l : Int) < 6 := by omega
          obtain ⟨x, hx⟩ : ∃ x, x = G.e k l := ⟨_, rfl⟩
          obtain ⟨y, hy⟩ : ∃ y, y = S k := ⟨_, rfl⟩
          obtain ⟨z, hz⟩ : ∃ z, z = S l := ⟨_, rfl⟩
          have HV : Hid (stp G S 0 k l = (x && y && z)) := by show _ = _; rw [stp, inE, ← hx, ← hy, ← hz]
          rw [← hx] at ce
          rw [← hy] at ck
          rw [← hz] at cl
          clear hx hy hz
          cases x with
          | false =>
            go_wp2_with fail
            go_region
            all_goals
              go_wp2
              go_roundw
              case rel => exact ⟨l + 1, by omega, by go_num, (hbel.setCell (by simp; omega) _).drew, (HA.out.setOther _ (Ne.symm e1)).drew, (HR.out.setOther _ (Ne.symm e2)).drew, (mat_step HM.out (by omega) (by omega) (by rw [HV.out]; simp)).drew⟩
              case measure => simp [intOf]; omega
          | true =>
            cases y with
            | false =>
              go_wp2_with fail
              go_region
              all_goals
                go_wp2
                go_roundw
                case rel => exact ⟨l + 1, by omega, by go_num, (hbel.setCell (by simp; omega) _).drew, (HA.out.setOther _ (Ne.symm e1)).drew, (HR.out.setOther _ (Ne.symm e2)).drew, (mat_step HM.out (by omega) (by omega) (by rw [HV.out]; simp)).drew⟩
                case measure => simp [intOf]; omega
            | true =>
              go_wp2_with fail
              go_region
              all_goals
                go_wp2
                go_roundw
                case rel => exact ⟨l + 1, by omega, by go_num, (hbel.setCell (by simp; omega) _).drew, (HA.out.setOther _ (Ne.symm e1)).drew, (HR.out.setOther _ (Ne.symm e2)).drew, (mat_step HM.out (by omega) (by omega) (by rw [HV.out]; simp)).drew⟩
                case measure => simp [intOf]; omega
        · go_wp2_with fail
          go_roundw
          case rel => exact ⟨k + 1, by omega, by go_num, hbel, HA, HR, HM.out.congr fun i j hi hj => by
            unfold half
            by_cases h1 : i < k
            · rw [if_pos (.inl h1), if_pos (by omega)]
            · by_cases h2 : i = k
              · rw [if_pos (by omega), if_pos (by omega)]
              · rw [if_neg (by omega), if_neg (by omega)]⟩
          case measure => simp [intOf]; omega
    · have HM6 : Hid (Mat _ (w.heap.size + 1 + 1) (stp G S 0)) := HM.out.congr fun i j hi hj => by
        unfold half
        rw [if_pos (.inl (by omega))]
      clear HM
      go_wp2_with fail
      clear HA
      go_loopw [8] (fun q wr => ∃ c : Nat, c ≤ 6 ∧ q = .int .i64 c ∧ Below w.heap.size w wr ∧ Hid (Mat wr (w.heap.size + 1) (fun _ _ => false)) ∧ Hid (Mat wr (w.heap.size + 1 + 1) (stp G S c))) (fun q _ => 6 - (intOf q).toNat)
      case atStart => exact ⟨0, by omega, rfl, hbel, HR, HM6⟩
      case round =>
        clear hbel HR HM6
        obtain ⟨c, hc, rfl, hbel, HR, HM⟩ := hrel
        by_cases hcl : c < 6
        · have HJ := fun W => joinedP_is (stp G S c) c hcl W
          have HE : Hid (join (stp G S c) c = stp G S (c + 1)) := by show _ = _; funext x y; rfl
          obtain ⟨N, hN⟩ : ∃ N, N = join (stp G S c) c := ⟨_, rfl⟩
          rw [← hN] at HJ HE
          clear hN
          go_wp2_with (first
            | (refine loadW (by rfl) _ (by rfl) (w.heap.size + 1 + 1) (by rfl) _ HM.out ?_)
            | (go_at_call 112; refine (HJ _).mono ?_; rintro e w4 ⟨rfl, hb4⟩)
            | (refine storeW (by rfl) _ _ (by rfl) (w.heap.size + 1 + 1) _ _ (by rfl) (by rfl) (HM.out.below hb4 HM.out.lt) ?_; intro w5 hb5 hz5 hk5 HM5))
          have hm5 : Mat w5 (w.heap.size + 1) (fun _ _ => false) := (HR.out.below hb4 HR.out.lt).below hb5 (by omega)
          go_roundw
          case rel => exact ⟨c + 1, by omega, by go_num, (Below.to hbel hb4).trans (hb5.mono (by omega)), hm5, by show Mat _ _ _; rw [← HE.out]; exact HM5⟩
          case measure => simp [intOf]; omega
        · obtain rfl : c = 6 := by omega
          go_wp2_with (first | (refine loadW (by rfl) _ (by rfl) (w.heap.size + 1 + 1) (by rfl) _ HM.out ?_) | (refine storeW (by rfl) _ _ (by rfl) (w.heap.size + 1) _ _ (by rfl) (by rfl) HR.out ?_; intro w5 hb5 hz5 hk5 HR5))
          exact bodyPost_ret (resultW Tryz.results98 _ _ (w.heap.size + 1) _ rfl HR5) rfl ⟨rfl, hbel.trans (hb5.mono (by omega))⟩

end Go.Proofs.YtmlpjidkoaaleaaGreat

namespace Go.Proofs.YtmlpjidkoaaleaaGreat
open Go.RowKit Fw
set_option linter.unusedVariables false

set_option maxRecDepth 100000 in
set_option maxHeartbeats 4000000 in
theorem meetsP_is (b o c x : Nat) (G : Gph) (K : Nat → ByteArray) (f : ByteArray) (B : Nat → Bool) (M : Nat → Nat → Bool) (hc : c < 6) (w : World) (HG : Hid (Wy w b o G K f B)) :
    Calls Tryz.prog 113 #[.pointer (some ⟨b, o, none⟩), .agg (bools 36 (flat6 M)).toArray, .int .i64 (c : Int), .int .u8 (x : Int)] w fun e w' => e = .returned (.bool (mts G M c x)) ∧ Below w.heap.size w w' := by
  have hgl := HG.out.lt
  have HB0 := mat_box w M 149
  obtain ⟨C, hC⟩ : ∃ C, C = (bools 36 (flat6 M)).toArray := ⟨_, rfl⟩
  rw [← hC]
  rw [← hC] at HB0
  clear hC
  have HB : Hid (Mat (w.alloc (.cells C 149)) w.heap.size M) := HB0
  clear HB0
  have hb1 : Below w.heap.size w (w.alloc (.cells C 149)) := (Below.refl _ _).alloc (Nat.le_refl _) _
  have HGr : Hid (Wy (w.alloc (.cells C 149)) b o G K f B) := HG.out.below hb1 hgl
  have c0 : (0 : Int) ≤ (c : Int) := by omega
  have c1 : (c : Int) < 6 := by omega
  have HM : Hid (mts G M c x = anyU (fun d => M c d && M d c && G.m d x) 6) := rfl
  go_enter Tryz.func113, Tryz.ntmps113
  go_wp2_with fail
  go_loop [9] (fun q => ∃ k : Nat, k ≤ 6 ∧ q = .int .i64 k ∧ Hid (anyU (fun d => M c d && M d c && G.m d x) k = false)) (fun q => 6 - (intOf q).toNat)
  case atStart => exact ⟨0, by omega, rfl, rfl⟩
  case round =>
    obtain ⟨k, hk, rfl, HF⟩ := hrel
    by_cases hlt : k < 6
    · have cck := HB.out.c c k hc hlt
      have ckc := HB.out.c k c hlt hc
      have k0 : (0 : Int) ≤ (k : Int) := by omega
      have k1 : (k : Int) < 6 := by omega
      have HX : Hid (anyU (fun d => M c d && M d c && G.m d x) (k + 1) = (false || (M c k && M k c && G.m k x))) := by show _ = _; rw [anyU_succ, HF.out]
      have HC := bearsP_is b o k x G K f B _ hlt HGr
      obtain ⟨y, hy⟩ : ∃ y, y = M c k := ⟨_, rfl⟩
      obtain ⟨z, hz⟩ : ∃ z, z = M k c := ⟨_, rfl⟩
      obtain ⟨m, hm⟩ : ∃ m, m = G.m k x := ⟨_, rfl⟩
      rw [← hy] at cck
      rw [← hz] at ckc
      rw [← hm] at HC
      rw [← hy, ← hz, ← hm] at HX
      clear hy hz hm
      cases y with
      | false =>
        go_wp2_with fail
        go_round
        case rel => exact ⟨k + 1, by omega, by go_num, by show _ = _; rw [HX.out]; rfl⟩
        case measure => simp [intOf]; omega
      | true =>
        cases z with
        | false =>
          go_wp2_with fail
          go_round
          case rel => exact ⟨k + 1, by omega, by go_num, by show _ = _; rw [HX.out]; rfl⟩
          case measure => simp [intOf]; omega
        | true =>
          cases m with
          | false =>
            go_wp2_with (go_at_call 111; refine HC.mono ?_; rintro e w' ⟨rfl, rfl⟩)
            go_round
            case rel => exact ⟨k + 1, by omega, by go_num, by show _ = _; rw [HX.out]; rfl⟩
            case measure => simp [intOf]; omega
          | true =>
            have HY : Hid (mts G M c x = true) := by
              show _ = _
              rw [HM.out]
              unfold anyU
              rw [List.any_eq_true]
              have h2 := HX.out
              unfold anyU at h2
              simp only [Bool.false_or, Bool.and_self] at h2
              rw [List.any_eq_true] at h2
              obtain ⟨d, hd, hp⟩ := h2
              exact ⟨d, List.mem_range.2 (by have := List.mem_range.1 hd; omega), hp⟩
            go_wp2_with (go_at_call 111; refine HC.mono ?_; rintro e w' ⟨rfl, rfl⟩)
            go_ret
            exact ⟨by rw [HY.out]; rfl, hb1⟩
    · obtain rfl : k = 6 := by omega
      go_wp2_with fail
      go_ret
      exact ⟨by rw [HM.out, HF.out]; rfl, hb1⟩

theorem yld36 {ops : Array Oper} {S : World → Prop} {op : Oper} {a : Act} (H : Nat) (L : List Value) (hl : L.length = 36) (hw : Region.wanted op (yielded ops a.tmps) = true) (x : Operand) (ho : op.op = .load 149 x) (hx : a.eval x = .pointer (some ⟨H, 0, none⟩)) (hS : ∀ w, S w → w.rangeAt H 0 L) : YieldsIf Tryz.prog ops S op (.agg L.toArray) a := by
  obtain ⟨d, hu, hd⟩ := Tryz.row149
  exact yieldsIf_load_mid hw 149 x ho H 0 hx L d hS hu hd (by rw [hl]; exact Tryz.size149)

def allP (G : Gph) (M : Nat → Nat → Bool) (c : Nat) (l : List UInt8) : Bool := (l.map (·.toNat)).all fun x => mts G M c x
theorem allP_nil (G : Gph) (M : Nat → Nat → Bool) (c : Nat) {s : ByteArray} {k : Nat} (h : s.size ≤ k) : allP G M c (tl s k) = true := by
  rw [tl_nil s k h]; rfl
theorem allP_cons (G : Gph) (M : Nat → Nat → Bool) (c : Nat) {s : ByteArray} {k : Nat} (h : k < s.size) : allP G M c (tl s k) = (mts G M c s[k].toNat && allP G M c (tl s (k + 1))) := by
  rw [tl_cons s k h]; rfl

set_option maxRecDepth 100000 in
set_option maxHeartbeats 4000000 in
theorem roundP_is (b o c : Nat) (G : Gph) (K : Nat → ByteArray) (f : ByteArray) (B : Nat → Bool) (M : Nat → Nat → Bool) (hc : c < 6) (hf : f.size ≤ 1000) (w : World) (HG : Hid (Wy w b o G K f B)) :
    Calls Tryz.prog 99 #[.pointer (some ⟨b, o, none⟩), .agg (bools 36 (flat6 M)).toArray, .int .i64 (c : Int)] w fun e w' => e = .returned (.bool (rnd G (fsOf f) M c)) ∧ Below w.heap.size w w' := by
  have hgl := HG.out.lt
  have HB0 := mat_box w M 149
  have HME := fun (x : Nat) W (h : Hid (Wy W b o G K f B)) => meetsP_is b o c x G K f B M hc W h
  obtain ⟨L, hL⟩ : ∃ L, L = bools 36 (flat6 M) := ⟨_, rfl⟩
  rw [← hL]
  rw [← hL] at HB0 HME
  have HRG : Hid (∀ W bb, Mat W bb M → W.rangeAt bb 0 L) := by
    intro W bb h
    rw [hL]
    exact h.range
  have hl : L.length = 36 := by rw [hL, bools_len]
  clear hL
  have HB : Hid (Mat (w.alloc (.cells L.toArray 149)) w.heap.size M) := HB0
  clear HB0
  have hb1 : Below w.heap.size w (w.alloc (.cells L.toArray 149)) := (Below.refl _ _).alloc (Nat.le_refl _) _
  have c0 : (0 : Int) ≤ (c : Int) := by omega
  have c1 : (c : Int) < 6 := by omega
  have ccc := HB.out.c c c hc hc
  have HR : Hid (rnd G (fsOf f) M c = (M c c && allP G M c (tl f 0))) := rfl
  obtain ⟨y, hy⟩ : ∃ y, y = M c c := ⟨_, rfl⟩
  rw [← hy] at ccc HR
  clear hy
  go_enter Tryz.func99, Tryz.ntmps99
  cases y with
  | false =>
    go_wp2_with fail
    go_ret
    exact ⟨by rw [HR.out]; rfl, hb1⟩
  | true =>
    go_wp2_with fail
    clear ccc
    go_loopw [7] (fun q wr => ∃ k : Nat, k ≤ f.size ∧ q = .int .i64 k ∧ Below w.heap.size w wr ∧ Hid (Mat wr w.heap.size M) ∧ Hid (allP G M c (tl f k) = allP G M c (tl f 0))) (fun q _ => f.size - (intOf q).toNat)
    case atStart => exact ⟨0, by omega, rfl, hb1, HB, rfl⟩
    case round =>
      clear HB hb1
      obtain ⟨k, hk, rfl, hbel, HB, HF⟩ := hrel
      have HGr : Hid (Wy _ b o G K f B) := HG.out.below hbel hgl
      have cf := HGr.out.cf
      by_cases hlt : k < f.size
      · have HX : Hid (allP G M c (tl f 0) = (mts G M c f[k].toNat && allP G M c (tl f (k + 1)))) := by show _ = _; rw [← HF.out, allP_cons G M c hlt]
        have HC := HME f[k].toNat _ (show Hid _ from HGr.out.drew)
        obtain ⟨m, hm⟩ : ∃ m, m = mts G M c f[k].toNat := ⟨_, rfl⟩
        rw [← hm] at HX HC
        clear hm
        cases m with
        | false =>
          go_wp2_with fail
          refine wp_region_held_drew (S := fun w' => w'.cell? ⟨b, o + 45, none⟩ = some (.string f) ∧ w'.rangeAt w.heap.size 0 L) (by kernel_rfl) ⟨HGr.out.cf, HRG.out _ _ HB.out.drew⟩ (fun hHeld => ?_)
          refine wpAnyH_take (i := 1) rfl (by kernel_rfl) (by kernel_rfl) (by kernel_rfl) (fun _ _ _ h => h) (yld36 w.heap.size L hl (by rfl) _ (by rfl) (by rfl) (fun _ h => h.2)) hHeld ?_
          simp only [Act.put, List.setIfInBounds_toArray]
          refine wpAnyH_take (i := 0) (v := ?v1) rfl (by kernel_rfl) (by kernel_rfl) (by kernel_rfl) (fun _ _ _ h => h) (Or.inl ⟨by rfl, ?hy1⟩) hHeld ?rest1
          case hy1 =>
            intro W hW
            obtain ⟨hW1, hW2⟩ := hW
            go_simp
            try with_reducible rfl
          simp only [Act.put]
          refine wpAnyH_take (i := 2) (v := ?v2) rfl (by kernel_rfl) (by kernel_rfl) (by kernel_rfl) (fun _ _ _ h => h) (Or.inl ⟨by rfl, ?hy2⟩) hHeld ?rest2
          case hy2 =>
            intro W hW
            obtain ⟨hW1, hW2⟩ := hW
            go_simp
            try with_reducible rfl
          simp only [Act.put]
          refine wpAnyH_take (i := 3) (v := ?v3) rfl (by kernel_rfl) (by kernel_rfl) (by kernel_rfl) (fun _ _ _ h => h) (Or.inl ⟨by rfl, ?hy3⟩) hHeld ?rest3
          case hy3 =>
            intro W hW
            obtain ⟨hW1, hW2⟩ := hW
            go_simp
            try with_reducible rfl
          simp only [Act.put]
          refine wpAnyH_take (i := 4) (v := ?v4) rfl (by kernel_rfl) (by kernel_rfl) (by kernel_rfl) (fun _ _ _ h => h) (Or.inl ⟨by rfl, ?hy4⟩) hHeld ?rest4
          case hy4 =>
            intro W hW
            obtain ⟨hW1, hW2⟩ := hW
            go_simp
            try with_reducible rfl
          simp only [Act.put]
          refine wpAnyH_take (i := 5) (v := ?v5) rfl (by kernel_rfl) (by kernel_rfl) (by kernel_rfl) (fun _ _ _ h => h) (Or.inl ⟨by rfl, ?hy5⟩) hHeld ?rest5
          case hy5 =>
            intro W hW
            obtain ⟨hW1, hW2⟩ := hW
            go_simp
            try with_reducible rfl
          simp only [Act.put]
          refine wpAnyH_take (i := 6) (v := ?v6) rfl (by kernel_rfl) (by kernel_rfl) (by kernel_rfl) (fun _ _ _ h => h) (Or.inl ⟨by rfl, ?hy6⟩) hHeld ?rest6
          case hy6 =>
            intro W hW
            obtain ⟨hW1, hW2⟩ := hW
            go_simp
            try with_reducible rfl
          simp only [Act.put]
          refine wpAnyH_take (i := 7) (v := ?v7) rfl (by kernel_rfl) (by kernel_rfl) (by kernel_rfl) (fun _ _ _ h => h) (Or.inl ⟨by rfl, ?hy7⟩) hHeld ?rest7
          case hy7 =>
            intro W hW
            obtain ⟨hW1, hW2⟩ := hW
            go_simp
            try with_reducible rfl
          simp only [Act.put]
          refine wpAnyH_take (i := 8) (v := ?v8) rfl (by kernel_rfl) (by kernel_rfl) (by kernel_rfl) (fun _ _ _ h => h) (Or.inl ⟨by rfl, ?hy8⟩) hHeld ?rest8
          case hy8 =>
            intro W hW
            obtain ⟨hW1, hW2⟩ := hW
            go_simp
            try with_reducible rfl
          simp only [Act.put]
          refine wpAnyH_ready (rs := [9]) (by kernel_rfl) (by simp) ?_
          refine AllReadyH.cons rfl (fun KK hKK => ?_) AllReadyH.nil
          go_simp
          refine HC.mono ?_
          rintro e w4 ⟨rfl, hb4⟩
          have HB4 : Hid (Mat w4 w.heap.size M) := HB.out.drew.below hb4 HB.out.lt
          have HG4 : Hid (Wy w4 b o G K f B) := HGr.out.drew.below hb4 HGr.out.lt
          clear hHeld
          go_wp2_with fail
          refine hKK.out _ _ ⟨HG4.out.cf, HRG.out _ _ HB4.out⟩ (fun hHeld => ?_)
          clear hKK KK
          refine wpAnyH_take (i := 10) (v := ?v9) rfl (by kernel_rfl) (by kernel_rfl) (by kernel_rfl) (fun _ _ _ h => h) (Or.inl ⟨by rfl, ?hy9⟩) hHeld ?rest9
          case hy9 =>
            intro W hW
            obtain ⟨hW1, hW2⟩ := hW
            go_simp
            try with_reducible rfl
          simp only [Act.put]
          refine wpAnyH_done (by kernel_rfl) ?_ _
          go_wp2_with fail
          go_ret
          exact ⟨by rw [HR.out, HX.out]; rfl, Below.to hbel.drew hb4⟩
        | true =>
          go_wp2_with fail
          refine wp_region_held_drew (S := fun w' => w'.cell? ⟨b, o + 45, none⟩ = some (.string f) ∧ w'.rangeAt w.heap.size 0 L) (by kernel_rfl) ⟨HGr.out.cf, HRG.out _ _ HB.out.drew⟩ (fun hHeld => ?_)
          refine wpAnyH_take (i := 1) rfl (by kernel_rfl) (by kernel_rfl) (by kernel_rfl) (fun _ _ _ h => h) (yld36 w.heap.size L hl (by rfl) _ (by rfl) (by rfl) (fun _ h => h.2)) hHeld ?_
          simp only [Act.put, List.setIfInBounds_toArray]
          refine wpAnyH_take (i := 0) (v := ?v11) rfl (by kernel_rfl) (by kernel_rfl) (by kernel_rfl) (fun _ _ _ h => h) (Or.inl ⟨by rfl, ?hy11⟩) hHeld ?rest11
          case hy11 =>
            intro W hW
            obtain ⟨hW1, hW2⟩ := hW
            go_simp
            try with_reducible rfl
          simp only [Act.put]
          refine wpAnyH_take (i := 2) (v := ?v12) rfl (by kernel_rfl) (by kernel_rfl) (by kernel_rfl) (fun _ _ _ h => h) (Or.inl ⟨by rfl, ?hy12⟩) hHeld ?rest12
          case hy12 =>
            intro W hW
            obtain ⟨hW1, hW2⟩ := hW
            go_simp
            try with_reducible rfl
          simp only [Act.put]
          refine wpAnyH_take (i := 3) (v := ?v13) rfl (by kernel_rfl) (by kernel_rfl) (by kernel_rfl) (fun _ _ _ h => h) (Or.inl ⟨by rfl, ?hy13⟩) hHeld ?rest13
          case hy13 =>
            intro W hW
            obtain ⟨hW1, hW2⟩ := hW
            go_simp
            try with_reducible rfl
          simp only [Act.put]
          refine wpAnyH_take (i := 4) (v := ?v14) rfl (by kernel_rfl) (by kernel_rfl) (by kernel_rfl) (fun _ _ _ h => h) (Or.inl ⟨by rfl, ?hy14⟩) hHeld ?rest14
          case hy14 =>
            intro W hW
            obtain ⟨hW1, hW2⟩ := hW
            go_simp
            try with_reducible rfl
          simp only [Act.put]
          refine wpAnyH_take (i := 5) (v := ?v15) rfl (by kernel_rfl) (by kernel_rfl) (by kernel_rfl) (fun _ _ _ h => h) (Or.inl ⟨by rfl, ?hy15⟩) hHeld ?rest15
          case hy15 =>
            intro W hW
            obtain ⟨hW1, hW2⟩ := hW
            go_simp
            try with_reducible rfl
          simp only [Act.put]
          refine wpAnyH_take (i := 6) (v := ?v16) rfl (by kernel_rfl) (by kernel_rfl) (by kernel_rfl) (fun _ _ _ h => h) (Or.inl ⟨by rfl, ?hy16⟩) hHeld ?rest16
          case hy16 =>
            intro W hW
            obtain ⟨hW1, hW2⟩ := hW
            go_simp
            try with_reducible rfl
          simp only [Act.put]
          refine wpAnyH_take (i := 7) (v := ?v17) rfl (by kernel_rfl) (by kernel_rfl) (by kernel_rfl) (fun _ _ _ h => h) (Or.inl ⟨by rfl, ?hy17⟩) hHeld ?rest17
          case hy17 =>
            intro W hW
            obtain ⟨hW1, hW2⟩ := hW
            go_simp
            try with_reducible rfl
          simp only [Act.put]
          refine wpAnyH_take (i := 8) (v := ?v18) rfl (by kernel_rfl) (by kernel_rfl) (by kernel_rfl) (fun _ _ _ h => h) (Or.inl ⟨by rfl, ?hy18⟩) hHeld ?rest18
          case hy18 =>
            intro W hW
            obtain ⟨hW1, hW2⟩ := hW
            go_simp
            try with_reducible rfl
          simp only [Act.put]
          refine wpAnyH_ready (rs := [9]) (by kernel_rfl) (by simp) ?_
          refine AllReadyH.cons rfl (fun KK hKK => ?_) AllReadyH.nil
          go_simp
          refine HC.mono ?_
          rintro e w4 ⟨rfl, hb4⟩
          have HB4 : Hid (Mat w4 w.heap.size M) := HB.out.drew.below hb4 HB.out.lt
          have HG4 : Hid (Wy w4 b o G K f B) := HGr.out.drew.below hb4 HGr.out.lt
          clear hHeld
          go_wp2_with fail
          refine hKK.out _ _ ⟨HG4.out.cf, HRG.out _ _ HB4.out⟩ (fun hHeld => ?_)
          clear hKK KK
          refine wpAnyH_take (i := 10) (v := ?v19) rfl (by kernel_rfl) (by kernel_rfl) (by kernel_rfl) (fun _ _ _ h => h) (Or.inl ⟨by rfl, ?hy19⟩) hHeld ?rest19
          case hy19 =>
            intro W hW
            obtain ⟨hW1, hW2⟩ := hW
            go_simp
            try with_reducible rfl
          simp only [Act.put]
          refine wpAnyH_done (by kernel_rfl) ?_ _
          go_wp2_with fail
          go_roundw
          case rel => exact ⟨k + 1, by omega, by go_num, Below.to hbel.drew hb4, HB4, by show _ = _; rw [HX.out]; rfl⟩
          case measure => simp [intOf]; omega
      · go_wp2_with fail
        go_ret
        exact ⟨by rw [HR.out, ← HF.out, allP_nil G M c (by omega)]; rfl, hbel⟩

end Go.Proofs.YtmlpjidkoaaleaaGreat

namespace Go.Proofs.YtmlpjidkoaaleaaGreat
open Go.RowKit Fw
set_option linter.unusedVariables false

set_option maxRecDepth 100000 in
set_option maxHeartbeats 4000000 in
theorem stayingP_is (b o : Nat) (G : Gph) (K : Nat → ByteArray) (f : ByteArray) (B S : Nat → Bool) (hf : f.size ≤ 1000) (w : World) (HG : Hid (Wy w b o G K f B)) :
    Calls Tryz.prog 76 #[.pointer (some ⟨b, o, none⟩), .agg (six S)] w fun e w' => e = .returned (.agg (six (stayP G (fsOf f) S))) ∧ Below w.heap.size w w' := by
  have hgl := HG.out.lt
  have HA0 : Hid (Arr ((w.alloc (.cells (six S) 65)).alloc (.cells (six fun _ => false) 65)) w.heap.size 6 S) := (arr_new w S 65).alloc _
  have HR0 : Hid (Arr ((w.alloc (.cells (six S) 65)).alloc (.cells (six fun _ => false) 65)) (w.heap.size + 1) 6 (fun _ => false)) := arr_at _ _ 65 _ (by simp)
  have hb0 := below2S w (.cells (six S) 65) (.cells (six fun _ => false) 65)
  have HG0 : Hid (Wy _ b o G K f B) := HG.out.below hb0 hgl
  have HST := fun W (h : Hid (Wy W b o G K f B)) => stepsP_is b o G K f B S W h
  have HSP : Hid (stayP G (fsOf f) S = rea G.e S (rnd G (fsOf f) (stp G S 6)) 5) := rfl
  obtain ⟨M, hM⟩ : ∃ M, M = stp G S 6 := ⟨_, rfl⟩
  rw [← hM] at HST HSP
  clear hM
  have HRO := fun (c : Nat) (hc : c < 6) W (h : Hid (Wy W b o G K f B)) => roundP_is b o c G K f B M hc hf W h
  obtain ⟨F, hF⟩ : ∃ F, F = rnd G (fsOf f) M := ⟨_, rfl⟩
  have HFc : Hid (∀ c, rnd G (fsOf f) M c = F c) := fun c => by rw [hF]
  rw [← hF] at HSP
  clear hF
  obtain ⟨D, hD⟩ : ∃ D, D = stayP G (fsOf f) S := ⟨_, rfl⟩
  rw [← hD] at HSP
  rw [← hD]
  clear hD
  go_enter Tryz.func76, Tryz.ntmps76
  go_wp2_with (first
    | (refine loadS (by rfl) _ (by rfl) w.heap.size (by rfl) S HA0.out ?_)
    | (go_at_call 98; refine (HST _ HG0).mono ?_; rintro e w1 ⟨rfl, hb1⟩)
    | (refine storeW (by rfl) _ _ (by rfl) w1.heap.size (fun _ _ => false) M (by rfl) (by rfl) (mat_new w1 149 _ rfl) ?_; intro w3 hb3 hz3 hk3 HM3))
  have HA1 : Hid (Arr w1 w.heap.size 6 S) := HA0.out.below hb1 HA0.out.lt
  have HR1 : Hid (Arr w1 (w.heap.size + 1) 6 (fun _ => false)) := HR0.out.below hb1 HR0.out.lt
  have hbel1 : Below w.heap.size w w1 := Below.to hb0 hb1
  have hb13 : Below w1.heap.size w1 w3 := ((Below.refl _ _).alloc (Nat.le_refl _) _).trans hb3
  have HA3 : Hid (Arr w3 w.heap.size 6 S) := HA1.out.below hb13 HA1.out.lt
  have HR3 : Hid (Arr w3 (w.heap.size + 1) 6 (fun _ => false)) := HR1.out.below hb13 HR1.out.lt
  have hbel3 : Below w.heap.size w w3 := Below.to hbel1 hb13
  have HM3' : Hid (Mat w3 w1.heap.size M) := HM3
  have q1 : w.heap.size + 1 < w1.heap.size := HR1.out.lt
  have q2 : w3.heap.size = w1.heap.size + 1 := by rw [hz3]; simp
  clear HM3 hb3 hz3 hk3 HA1 HR1 HA0 HR0 HG0 hb0 hb1 hb13 hbel1
  go_loopw [7] (fun q wr => ∃ i : Nat, i ≤ 6 ∧ q = .int .i64 i ∧ Below w.heap.size w wr ∧ Hid (Arr wr w.heap.size 6 S) ∧ Hid (Arr wr (w.heap.size + 1) 6 (fun _ => false)) ∧ Hid (Mat wr w1.heap.size M) ∧ Hid (Arr wr (w1.heap.size + 1) 6 (upto i F))) (fun q _ => 6 - (intOf q).toNat)
  case atStart =>
    refine ⟨0, by omega, rfl, Below.to hbel3 ((Below.refl _ _).alloc (Nat.le_refl _) _), HA3.out.alloc _, HR3.out.alloc _, HM3'.out.alloc _, ?_⟩
    show Arr _ _ _ _
    rw [upto_zero]
    exact arr_at _ (fun _ => false) 65 _ q2
  case round =>
    clear HA3 HR3 HM3' hbel3
    obtain ⟨i, hi, rfl, hbel, HA, HR, HM, HS⟩ := hrel
    by_cases hlt : i < 6
    · have HGr : Hid (Wy _ b o G K f B) := HG.out.below hbel hgl
      have i0 : (0 : Int) ≤ (i : Int) := by omega
      have i1 : (i : Int) < 6 := by omega
      have cs := HS.out.c i (by omega)
      have zs := HS.out.z i (by omega)
      have HC := HRO i hlt
      rw [HFc.out i] at HC
      go_wp2_with (first
        | (refine loadW (by rfl) _ (by rfl) w1.heap.size (by rfl) _ HM.out ?_)
        | (go_at_call 99; refine (HC _ HGr).mono ?_; rintro e w4 ⟨rfl, hb4⟩
           have cs4 := (hb4.cell (p := ⟨w1.heap.size + 1, i, none⟩) HS.out.lt).trans cs
           have zs4 := (hb4.frozen (p := ⟨w1.heap.size + 1, i, none⟩) HS.out.lt).trans zs))
      go_roundw
      case rel => exact ⟨i + 1, by omega, by go_num, (Below.to hbel hb4).setCell (by simp; omega) _, (HA.out.below hb4 HA.out.lt).setOther _ (by simp; omega), (HR.out.below hb4 HR.out.lt).setOther _ (by simp; omega), (HM.out.below hb4 HM.out.lt).setOther _ (by simp), (HS.out.below hb4 HS.out.lt).next (by omega) _ rfl⟩
      case measure => simp [intOf]; omega
    · obtain rfl : i = 6 := by omega
      have HGr : Hid (Wy _ b o G K f B) := HG.out.below hbel hgl
      have HS6 : Hid (Arr _ (w1.heap.size + 1) 6 F) := HS.out.congr fun j hj => by unfold upto; rw [if_pos hj]
      have HRE := fun W (h : Hid (Wy W b o G K f B)) => reachingP_is b o G K f B S F W h
      rw [← HSP.out] at HRE
      go_wp2_with (first
        | (refine loadS (by rfl) _ (by rfl) w.heap.size (by rfl) S HA.out ?_)
        | (refine loadS (by rfl) _ (by rfl) (w1.heap.size + 1) (by rfl) F HS6.out ?_)
        | (go_at_call 100; refine (HRE _ HGr).mono ?_; rintro e w4 ⟨rfl, hb4⟩)
        | (refine storeS (by rfl) _ _ (by rfl) (w.heap.size + 1) _ _ (by rfl) (by rfl) (HR.out.below hb4 HR.out.lt) ?_; intro w5 hb5 hz5 hk5 HR5))
      exact bodyPost_ret (resultS Tryz.results76 _ _ (w.heap.size + 1) _ rfl HR5) rfl ⟨rfl, (Below.to hbel hb4).trans (hb5.mono (by omega))⟩

end Go.Proofs.YtmlpjidkoaaleaaGreat

