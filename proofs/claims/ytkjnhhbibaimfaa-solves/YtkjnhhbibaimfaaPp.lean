import Derived.Test.YtkjnhhbibaimfaaPo
import Derived.Test.YtkjnhhbibaimfaaWj
namespace Go.Proofs.Ytkjnhhbibaimfaa
open Go.RowKit Fw
open Go.Deep (BT)
set_option linter.unusedVariables false

theorem Try.size61 : (Try.prog.info? 61).map (·.size) = some 52 := by kernel_rfl
theorem Try.row61 : ∃ d, Try.prog.underlying 61 = some d ∧ d.isRow = true := ⟨_, Try.underlying61, rfl⟩

def cells52 (c : Nat) (M : Nat → Nat → Bool) (K : Nat → ByteArray) (f : ByteArray) (B : Nat → Bool) : List Value := .int .i64 0 :: .int .i64 0 :: (grCells c M K ++ (.string f :: bools 6 B))

theorem built61 (c : Nat) (M : Nat → Nat → Bool) (K : Nat → ByteArray) (f : ByteArray) : Try.prog.built 61 [(0, .agg (.int .i64 0 :: .int .i64 0 :: grCells c M K).toArray), (1, .string f)] = some (cells52 c M K f (fun _ => false)).toArray := by kernel_rfl

theorem cells52_len (c : Nat) (M : Nat → Nat → Bool) (K : Nat → ByteArray) (f : ByteArray) (B : Nat → Bool) : (cells52 c M K f B).length = 52 := by simp [cells52, grCells_len, bools_len]
theorem cells52_one (c : Nat) (M : Nat → Nat → Bool) (K : Nat → ByteArray) (f : ByteArray) (B : Nat → Bool) : (cells52 c M K f B).toArray.all (·.oneCell') = true := by
  refine all_oneCell_toArray fun v hv => ?_
  simp only [cells52, List.mem_cons, List.mem_append] at hv
  rcases hv with rfl | rfl | hv | rfl | hv
  · rfl
  · rfl
  · exact grCells_one _ _ _ v hv
  · rfl
  · simp only [bools, List.mem_map] at hv
    obtain ⟨k, _, rfl⟩ := hv
    rfl

theorem cells52_gr (c : Nat) (M : Nat → Nat → Bool) (K : Nat → ByteArray) (f : ByteArray) (B : Nat → Bool) (j : Nat) (hj : j < 43) : (cells52 c M K f B)[j + 2]? = (grCells c M K)[j]? := by
  unfold cells52
  rw [List.getElem?_cons_succ, List.getElem?_cons_succ, List.getElem?_append_left (by rw [grCells_len]; exact hj)]
theorem cells52_fair (c : Nat) (M : Nat → Nat → Bool) (K : Nat → ByteArray) (f : ByteArray) (B : Nat → Bool) : (cells52 c M K f B)[45]? = some (.string f) := by
  unfold cells52
  rw [List.getElem?_cons_succ, List.getElem?_cons_succ, List.getElem?_append_right (by rw [grCells_len]; omega), grCells_len]
  rfl
theorem cells52_set (c : Nat) (M : Nat → Nat → Bool) (K : Nat → ByteArray) (f : ByteArray) (B : Nat → Bool) (j : Nat) (hj : j < 6) : (cells52 c M K f B)[46 + j]? = some (.bool (B j)) := by
  unfold cells52
  rw [show 46 + j = (43 + (j + 1)) + 2 from by omega, List.getElem?_cons_succ, List.getElem?_cons_succ, List.getElem?_append_right (by rw [grCells_len]; omega), grCells_len, show 43 + (j + 1) - 43 = j + 1 from by omega, List.getElem?_cons_succ]
  simp only [bools, List.getElem?_map, List.getElem?_range hj, Option.map_some]
/-- ahead of the last six the last six do not matter -/
theorem cells52_pre (c : Nat) (M : Nat → Nat → Bool) (K : Nat → ByteArray) (f : ByteArray) (B B' : Nat → Bool) (j : Nat) (hj : j < 46) : (cells52 c M K f B)[j]? = (cells52 c M K f B')[j]? := by
  rcases Nat.lt_or_ge j 2 with h | h
  · obtain rfl | rfl : j = 0 ∨ j = 1 := by omega
    · rfl
    · rfl
  · obtain ⟨i, rfl⟩ : ∃ i, j = i + 2 := ⟨j - 2, by omega⟩
    rcases Nat.lt_or_ge i 43 with h2 | h2
    · rw [cells52_gr _ _ _ _ _ _ h2, cells52_gr _ _ _ _ _ _ h2]
    · obtain rfl : i = 43 := by omega
      rw [cells52_fair, cells52_fair]

theorem wy_of {w : World} {b o : Nat} {G : Gph} {K : Nat → ByteArray} {f : ByteArray} {B : Nat → Bool} (lt : b < w.heap.size) (n6 : G.n ≤ 6) (ks : ∀ i, (K i).size ≤ 1000) (mm : ∀ i c, i < 6 → (G.m i c = true ↔ ∃ d ∈ (K i).data.toList, d.toNat = c))
    (h : w.rangeAt b o (cells52 G.n G.e K f B)) : Wy w b o G K f B := by
  refine ⟨lt, n6, ?_, ?_, ?_, ?_, ?_, ks, mm⟩
  · exact h 2 _ rfl
  · intro i hi
    have := h (3 + i) _ (by rw [show 3 + i = (1 + i) + 2 from by omega, cells52_gr _ _ _ _ _ _ (by omega)]; exact grCells_mark _ _ _ i hi)
    rw [show o + 3 + i = o + (3 + i) from by omega]
    exact this
  · intro i j hi hj
    have := h (9 + i * 6 + j) _ (by rw [show 9 + i * 6 + j = (7 + i * 6 + j) + 2 from by omega, cells52_gr _ _ _ _ _ _ (by omega)]; exact grCells_edge _ _ _ i j hi hj)
    rw [show o + 9 + i * 6 + j = o + (9 + i * 6 + j) from by omega]
    exact this
  · exact h 45 _ (cells52_fair _ _ _ _ _)
  · intro i hi
    have := h (46 + i) _ (cells52_set _ _ _ _ _ i hi)
    rw [show o + 46 + i = o + (46 + i) from by omega]
    exact this

/-- a row stored somewhere in a block; the world behind it a letter -/
theorem storeAt {ops : Array Oper} {rest : List Oper} {op : Oper} {a : Act} {w : World} {Q : Exit → Act → World → Prop} (T n : Nat) (hT : (Try.prog.info? T).map (·.size) = some n) (hgd : op.guard = none) (x y : Operand) (ho : op.op = .store T x y)
    (b o : Nat) (cells : Array Value) (hx : a.eval x = .pointer (some ⟨b, o, none⟩)) (hy : a.eval y = .agg cells)
    (ht : w.there b o n) (hi : cells.size = n) (h1 : cells.all (·.oneCell') = true)
    (h : ∀ w', Below b w w' → w'.heap.size = w.heap.size → (∀ k, k ≠ b → w'.heap[k]? = w.heap[k]?) → w'.rangeAt b o cells.toList → (∀ j, j < o ∨ o + n ≤ j → w'.cell? ⟨b, j, none⟩ = w.cell? ⟨b, j, none⟩) → (∀ p, w'.frozen? p = w.frozen? p) → wpList Try.prog ops Q rest (a.put op.dst undef) w') : wpList Try.prog ops Q (op :: rest) a w := by
  refine wpList_store_mid hgd T x y ho b o cells hx hy (by rw [hi]; exact ht) (by rw [hi]; exact hT) h1 ?_
  refine h _ (below_setCellsT b _ _ _) (size_setCellsT b _ _ _) (block_setCellsT b _ _ _) ?_ ?_ ?_
  · exact World.rangeAt_setCells_same _ _ _ _ (by simpa [hi] using ht)
  · intro j hj
    exact World.cell?_setCells_out b cells.toList o w ⟨b, j, none⟩ (fun _ _ => by simp only [Array.length_toList, hi]; exact hj)
  · intro p
    exact World.frozen?_setCells _ _ _ _ _

theorem there_of {w : World} {b o : Nat} {cs : List Value} (h : w.rangeAt b 0 cs) (hz : ∀ j, w.frozen? ⟨b, j, none⟩ = false) (n : Nat) (hn : o + n ≤ cs.length) : w.there b o n := by
  intro j hj
  refine ⟨?_, hz _⟩
  have hlt : o + j < cs.length := by omega
  have := h (o + j) cs[o + j] (List.getElem?_eq_getElem hlt)
  rw [Nat.zero_add] at this
  rw [this]
  rfl

theorem rangeAt_below {w w' : World} {B b o : Nat} {cs : List Value} (h : Below B w w') (hb : b < B) (hr : w.rangeAt b o cs) : w'.rangeAt b o cs :=
  fun j v hv => (h.cell (p := ⟨b, o + j, none⟩) hb).trans (hr j v hv)

theorem build61 {ops : Array Oper} {rest : List Oper} {o : Oper} {a : Act} {w : World} {Q : Exit → Act → World → Prop} (hgd : o.guard = none) (x y : Operand) (ho : o.op = .build 61 #[(0, x), (1, y)])
    (c : Nat) (M : Nat → Nat → Bool) (K : Nat → ByteArray) (f : ByteArray) (C : Array Value) (hC : C = (Value.int .i64 0 :: .int .i64 0 :: grCells c M K).toArray) (hx : a.eval x = .agg C) (hy : a.eval y = .string f)
    (h : wpList Try.prog ops Q rest (a.put o.dst (.agg (cells52 c M K f (fun _ => false)).toArray)) w) : wpList Try.prog ops Q (o :: rest) a w := by
  have hv : ((#[(0, x), (1, y)] : Array (Nat × Operand)).map fun (i, x) => (i, a.eval x)).toList = [(0, .agg (.int .i64 0 :: .int .i64 0 :: grCells c M K).toArray), (1, .string f)] := by simp [hx, hy, hC]
  refine wpList_build hgd 61 #[(0, x), (1, y)] ho (by rw [hv, built61]; rfl) ?_
  rw [hv, built61]
  exact h

set_option maxRecDepth 100000 in
set_option maxHeartbeats 4000000 in
theorem ways_P (G : Gph) (K : Nat → ByteArray) (f : ByteArray) (n6 : G.n ≤ 6) (hf : f.size ≤ 1000) (ks : ∀ i, (K i).size ≤ 1000) (mm : ∀ i c, i < 6 → (G.m i c = true ↔ ∃ d ∈ (K i).data.toList, d.toNat = c)) (w : World) :
    Calls Try.prog 47 #[.agg (.int .i64 0 :: .int .i64 0 :: grCells G.n G.e K).toArray, .string f] w fun e w' => e = .returned (.agg (cells52 G.n G.e K f (begP G (fsOf f))).toArray) ∧ Below w.heap.size w w' := by
  obtain ⟨L, hL⟩ : ∃ L, L = Value.int .i64 0 :: .int .i64 0 :: grCells G.n G.e K := ⟨_, rfl⟩
  rw [← hL]
  have hLl : L.length = 45 := by rw [hL]; simp [grCells_len]
  have HB : ∀ {ops : Array Oper} {rest : List Oper} {o : Oper} {a : Act} {w : World} {Q : Exit → Act → World → Prop} (hgd : o.guard = none) (x y : Operand) (ho : o.op = .build 61 #[(0, x), (1, y)]) (hx : a.eval x = .agg L.toArray) (hy : a.eval y = .string f)
      (h : wpList Try.prog ops Q rest (a.put o.dst (.agg (cells52 G.n G.e K f (fun _ => false)).toArray)) w), wpList Try.prog ops Q (o :: rest) a w :=
    fun hgd x y ho hx hy h => build61 hgd x y ho G.n G.e K f L.toArray (by rw [hL]) hx hy h
  clear hL
  have HWY : Hid (∀ (W : World) (b : Nat) (B : Nat → Bool), b < W.heap.size → W.rangeAt b 0 (cells52 G.n G.e K f B) → Hid (Wy W b 0 G K f B)) := fun W b B h1 h2 => wy_of h1 n6 ks mm h2
  have HPRE : Hid (∀ (B B' : Nat → Bool) (W W' : World) (b : Nat), W.rangeAt b 0 (cells52 G.n G.e K f B) → W'.rangeAt b 46 (bools 6 B') → (∀ j, j < 46 ∨ 46 + 6 ≤ j → W'.cell? ⟨b, j, none⟩ = W.cell? ⟨b, j, none⟩) → W'.rangeAt b 0 (cells52 G.n G.e K f B')) := by
    intro B B' W W' b h1 h2 h3 j v hv
    rw [Nat.zero_add]
    have hj := (List.getElem?_eq_some_iff.1 hv).1
    rw [cells52_len] at hj
    rcases Nat.lt_or_ge j 46 with h | h
    · rw [cells52_pre _ _ _ _ B' B j h] at hv
      rw [h3 j (.inl h)]
      have := h1 j v hv
      rw [Nat.zero_add] at this
      exact this
    · obtain ⟨i, rfl⟩ : ∃ i, j = 46 + i := ⟨j - 46, by omega⟩
      rw [cells52_set _ _ _ _ _ i (by omega)] at hv
      refine h2 i v ?_
      simp only [bools, List.getElem?_map, List.getElem?_range (show i < 6 by omega), Option.map_some]
      exact hv
  have hL1 : (cells52 G.n G.e K f (fun _ => false)).toArray.size = 52 := by simp [cells52_len]
  have hO1 := cells52_one G.n G.e K f (fun _ => false)
  have hl1 := cells52_len G.n G.e K f (fun _ => false)
  have hL2 : (cells52 G.n G.e K f (begP G (fsOf f))).toArray.size = 52 := by simp [cells52_len]
  have hO2 := cells52_one G.n G.e K f (begP G (fsOf f))
  have hl2 := cells52_len G.n G.e K f (begP G (fsOf f))
  have HST := fun b W (h : Hid (Wy W b 0 G K f (fun _ => false))) => stayingP_is b 0 G K f (fun _ => false) (fun _ => true) hf W h
  have HBE : (stayP G (fsOf f) fun _ => true) = begP G (fsOf f) := rfl
  rw [HBE] at HST
  clear HBE
  obtain ⟨D, hD⟩ : ∃ D, D = begP G (fsOf f) := ⟨_, rfl⟩
  rw [← hD] at HST hL2 hO2 hl2
  rw [← hD]
  clear hD
  obtain ⟨C1, hC1⟩ : ∃ C1, C1 = cells52 G.n G.e K f (fun _ => false) := ⟨_, rfl⟩
  obtain ⟨C2, hC2⟩ : ∃ C2, C2 = cells52 G.n G.e K f D := ⟨_, rfl⟩
  have HWY1 : Hid (∀ (W : World) (b : Nat), b < W.heap.size → W.rangeAt b 0 C1 → Hid (Wy W b 0 G K f (fun _ => false))) := by
    intro W b h1 h2
    rw [hC1] at h2
    exact HWY.out W b _ h1 h2
  have HPRE1 : Hid (∀ (W W' : World) (b : Nat), W.rangeAt b 0 C1 → W'.rangeAt b 46 (bools 6 D) → (∀ j, j < 46 ∨ 46 + 6 ≤ j → W'.cell? ⟨b, j, none⟩ = W.cell? ⟨b, j, none⟩) → W'.rangeAt b 0 C2) := by
    intro W W' b h1 h2 h3
    rw [hC1] at h1
    rw [hC2]
    exact HPRE.out _ _ W W' b h1 h2 h3
  rw [← hC1] at hL1 hO1 hl1
  simp only [← hC1] at HB
  rw [← hC2] at hL2 hO2 hl2
  rw [← hC2]
  clear hC1 hC2 HWY HPRE
  have hrL : (w.alloc (.cells L.toArray 58)).rangeAt w.heap.size 0 L := by
    intro j v hv
    have hb := heap_alloc_new w (.cells L.toArray 58)
    rw [Nat.zero_add, cell_of_row _ _ _ _ _ _ hb, List.getElem?_toArray]
    exact hv
  have HTA : Hid (∀ (W : World) (C : Array Value) (t : TypeId) (B : Nat), W.heap.size = B → C.size = 52 → (W.alloc (.cells C t)).there B 0 52) := by
    intro W C t B h1 h2
    subst h1
    exact there_newG W C t 52 h2
  have HFZ : Hid (∀ (W : World) (C : Array Value) (t : TypeId) (B : Nat), W.heap.size = B → ∀ j, (W.alloc (.cells C t)).frozen? ⟨B, j, none⟩ = false) := by
    intro W C t B h1 j
    subst h1
    exact frozen_of_row _ _ _ _ _ (heap_alloc_new W _)
  go_enter Try.func47, Try.ntmps47
  go_wp2_with (first
    | (refine loadT 58 45 Try.size58 Try.row58 (by rfl) _ (by rfl) w.heap.size (by rfl) L (World.rangeAt_alloc hrL _) hLl ?_)
    | (refine HB (by rfl) _ _ (by rfl) (by rfl) (by rfl) ?_)
    | (refine storeAt 61 52 Try.size61 (by rfl) _ _ (by rfl) (w.heap.size + 1 + 1) 0 C1.toArray (by rfl) (by rfl) (HTA.out _ _ _ _ (by simp) rfl) hL1 hO1 ?_; intro w3 hb3 hz3 hk3 hr3 ho3 hf3
       have hs3 : w3.heap.size = w.heap.size + 1 + 1 + 1 := by rw [hz3]; simp
       have hz31 : ∀ j, w3.frozen? ⟨w.heap.size + 1 + 1, j, none⟩ = false := fun j => (hf3 _).trans (HFZ.out _ _ _ _ (by simp) j)
       have ht31 : w3.there (w.heap.size + 1) 0 52 := there_below hb3 (by omega) (World.there_alloc (HTA.out _ _ _ _ (by simp) rfl) _)
       have hbel3 : Below w.heap.size w w3 := (below3 w _ _ _).trans (hb3.mono (by omega))
       have hr3' : w3.rangeAt (w.heap.size + 1 + 1) 0 C1 := by simpa using hr3
       have HR3 : Hid (w3.rangeAt (w.heap.size + 1 + 1) 0 C1) := hr3'
       have HZ3 : Hid (∀ j, w3.frozen? ⟨w.heap.size + 1 + 1, j, none⟩ = false) := hz31
       have HT3 : Hid (w3.there (w.heap.size + 1) 0 52) := ht31
       clear hr3 hr3' hz31 ht31 hb3 hz3 hk3 ho3 hf3)
    | (go_at_call 65; refine (othersP_is (fun _ => false) _).mono ?_; rintro e w4 ⟨rfl, hb4⟩
       have HR4 : Hid (w4.rangeAt (w.heap.size + 1 + 1) 0 C1) := rangeAt_below hb4 (by omega) HR3.out
       have hs4 : w.heap.size + 1 + 1 < w4.heap.size := by have := hb4.size; omega)
    | (go_at_call 64; refine (HST (w.heap.size + 1 + 1) _ (HWY1.out w4 _ hs4 HR4.out)).mono ?_; rintro e w5 ⟨rfl, hb5⟩
       have HR5 : Hid (w5.rangeAt (w.heap.size + 1 + 1) 0 C1) := rangeAt_below hb5 hs4 HR4.out
       have hb35 : Below w3.heap.size w3 w5 := Below.to hb4 hb5
       have HZ5 : Hid (∀ j, w5.frozen? ⟨w.heap.size + 1 + 1, j, none⟩ = false) := fun j => (hb35.frozen (p := ⟨w.heap.size + 1 + 1, j, none⟩) (by simp; omega)).trans (HZ3.out j)
       have HT5 : Hid (w5.there (w.heap.size + 1) 0 52) := there_below hb35 (by omega) HT3.out
       have hbel5 : Below w.heap.size w w5 := Below.to hbel3 hb35)
    | (refine storeAt 59 6 Try.size59 (by rfl) _ _ (by rfl) (w.heap.size + 1 + 1) 46 (six D) (by rfl) (by rfl) (there_of HR5.out HZ5.out 6 (by rw [hl1]; omega)) rfl (bools_one 6 D) ?_; intro w6 hb6 hz6 hk6 hr6 ho6 hf6
       have HR6 : Hid (w6.rangeAt (w.heap.size + 1 + 1) 0 C2) := HPRE1.out w5 w6 _ HR5.out hr6 ho6
       have HT6 : Hid (w6.there (w.heap.size + 1) 0 52) := there_below hb6 (by omega) HT5.out
       have hbel6 : Below w.heap.size w w6 := hbel5.trans (hb6.mono (by omega))
       clear hb6 hz6 hk6 hr6 ho6 hf6)
    | (refine loadT 61 52 Try.size61 Try.row61 (by rfl) _ (by rfl) (w.heap.size + 1 + 1) (by rfl) C2 HR6.out hl2 ?_)
    | (refine storeT 61 52 Try.size61 (by rfl) _ _ (by rfl) (w.heap.size + 1) C2.toArray (by rfl) (by rfl) HT6.out hL2 hO2 ?_; intro w7 hb7 hz7 hk7 hr7))
  exact bodyPost_ret (resultT Try.results47 Try.size61 Try.row61 _ _ (w.heap.size + 1) C2 rfl (by simpa using hr7) hl2) rfl ⟨rfl, hbel6.trans (hb7.mono (by omega))⟩

end Go.Proofs.Ytkjnhhbibaimfaa
