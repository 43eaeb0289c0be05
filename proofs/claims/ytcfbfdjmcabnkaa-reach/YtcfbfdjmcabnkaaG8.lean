import Derived.BigQuiet
import Derived.BigRegion
import Derived.Deep.MidRow
import Derived.Deep.RegionHeld3
import Derived.Test.YtcfbfdjmcabnkaaG2
import Derived.Test.YtcfbfdjmcabnkaaG1
namespace Go.Proofs.Ytcfbfdjmcabnkaa
open Go.RowKit Fw
set_option linter.unusedVariables false

/-- how many bytes stand ahead of the first c -/
def findc (c : Nat) : List UInt8 → Nat
  | [] => 0
  | d :: r => if d.toNat = c then 0 else findc c r + 1

theorem findc_le (c : Nat) (l : List UInt8) : findc c l ≤ l.length := by
  induction l with
  | nil => exact Nat.le_refl _
  | cons d r ih => unfold findc; split <;> simp; omega

theorem findc_lt (c : Nat) (l : List UInt8) : findc c l < l.length ↔ ∃ d ∈ l, d.toNat = c := by
  induction l with
  | nil => simp [findc]
  | cons d r ih =>
    unfold findc
    by_cases h : d.toNat = c
    · simp [h]
    · rw [if_neg h]
      simp only [List.length_cons, List.mem_cons]
      constructor
      · intro h1
        obtain ⟨x, hx, he⟩ := ih.1 (by omega)
        exact ⟨x, .inr hx, he⟩
      · rintro ⟨x, rfl | hx, he⟩
        · exact absurd he h
        · have := ih.2 ⟨x, hx, he⟩
          omega

theorem findc_yes {s : ByteArray} {c k : Nat} (h : k < s.size) (hc : s[k].toNat = c) : findc c (tl s k) = 0 := by
  rw [tl_cons s k h, findc, if_pos hc]
theorem findc_no {s : ByteArray} {c k : Nat} (h : k < s.size) (hc : ¬ s[k].toNat = c) : findc c (tl s k) = findc c (tl s (k + 1)) + 1 := by
  rw [tl_cons s k h, findc, if_neg hc]
theorem findc_end {s : ByteArray} {c k : Nat} (h : s.size ≤ k) : findc c (tl s k) = 0 := by
  rw [tl_nil s k h]; rfl

/-- a row of bools in block B -/
structure Arr (w : World) (B n : Nat) (f : Nat → Bool) : Prop where
  lt : B < w.heap.size
  c : ∀ j, j < n → w.cell? ⟨B, j, none⟩ = some (.bool (f j))
  z : ∀ j, j < n → w.frozen? ⟨B, j, none⟩ = false

theorem addrS {b o p : Nat} (h : o ≠ p) : (⟨b, o, none⟩ : Addr) ≠ ⟨b, p, none⟩ := by
  intro e
  injection e
  contradiction
theorem addrB {b c o p : Nat} (h : b ≠ c) : (⟨b, o, none⟩ : Addr) ≠ ⟨c, p, none⟩ := by
  intro e
  injection e
  contradiction
theorem cell_otherS {w : World} {a b : Addr} {v : Value} (h : a ≠ b) : (w.setCell a v).cell? b = w.cell? b := World.cell?_setCell_other _ _ _ _ h
theorem cell_sameS {w : World} {a : Addr} {u v : Value} (h : w.cell? a = some u) : (w.setCell a v).cell? a = some v := World.cell?_setCell_same _ _ _ h

theorem Arr.set {w : World} {B n : Nat} {f : Nat → Bool} (h : Arr w B n f) (i : Nat) (v : Bool) (hi : i < n) : Arr (w.setCell ⟨B, i, none⟩ (.bool v)) B n (fun j => if j = i then v else f j) := by
  refine ⟨by simpa using h.lt, ?_, ?_⟩
  · intro j hj
    by_cases e : j = i
    · subst e
      rw [cell_sameS (h.c j hj)]
      simp
    · rw [cell_otherS (addrS (Ne.symm e)), h.c j hj]
      simp [e]
  · intro j hj
    rw [World.frozen?_setCell]
    exact h.z j hj

theorem Arr.setOther {w : World} {B n : Nat} {f : Nat → Bool} (h : Arr w B n f) {a : Addr} (v : Value) (ha : a.block ≠ B) : Arr (w.setCell a v) B n f := by
  refine ⟨by simpa using h.lt, ?_, ?_⟩
  · intro j hj
    rw [cell_otherS (by intro e; rw [e] at ha; exact ha rfl)]
    exact h.c j hj
  · intro j hj
    rw [World.frozen?_setCell]
    exact h.z j hj

theorem Arr.below {w w' : World} {K B n : Nat} {f : Nat → Bool} (h : Arr w B n f) (hb : Below K w w') (hk : B < K) : Arr w' B n f :=
  ⟨Nat.lt_of_lt_of_le h.lt hb.size, fun j hj => (hb.cell (p := ⟨B, j, none⟩) hk).trans (h.c j hj), fun j hj => (hb.frozen (p := ⟨B, j, none⟩) hk).trans (h.z j hj)⟩

theorem Arr.alloc {w : World} {B n : Nat} {f : Nat → Bool} (h : Arr w B n f) (o : Obj) : Arr (w.alloc o) B n f :=
  h.below ((Below.refl w.heap.size w).alloc (Nat.le_refl _) o) h.lt

theorem Arr.drewN {w : World} {B n : Nat} {f : Nat → Bool} (h : Arr w B n f) (k : Nat) : Arr (w.drewN k) B n f := ⟨h.lt, h.c, h.z⟩

theorem Arr.of_block {w : World} {B n : Nat} {f : Nat → Bool} {C : Array Value} {t : TypeId} (hb : w.heap[B]? = some (.cells C t)) (hc : ∀ j, j < n → C[j]? = some (.bool (f j))) : Arr w B n f := by
  refine ⟨?_, fun j hj => ?_, fun j hj => frozen_of_row _ _ _ _ _ hb⟩
  · rcases Nat.lt_or_ge B w.heap.size with h | h
    · exact h
    · rw [Array.getElem?_eq_none h] at hb; cases hb
  · rw [cell_of_row _ _ _ _ _ _ hb]
    exact hc j hj

/-- a set as a value -/
def six (S : Nat → Bool) : Array Value := #[.bool (S 0), .bool (S 1), .bool (S 2), .bool (S 3), .bool (S 4), .bool (S 5)]

theorem six_get (S : Nat → Bool) : ∀ j, j < 6 → (six S)[j]? = some (.bool (S j)) := by
  intro j hj
  obtain rfl | rfl | rfl | rfl | rfl | rfl := (by omega : j = 0 ∨ j = 1 ∨ j = 2 ∨ j = 3 ∨ j = 4 ∨ j = 5) <;> rfl

theorem arr_new (w : World) (S : Nat → Bool) (t : TypeId) : Arr (w.alloc (.cells (six S) t)) w.heap.size 6 S := Arr.of_block (heap_alloc_new w _) (six_get S)

theorem six_congr {S T : Nat → Bool} (h : ∀ j, j < 6 → S j = T j) : six S = six T := by
  simp only [six, h 0 (by omega), h 1 (by omega), h 2 (by omega), h 3 (by omega), h 4 (by omega), h 5 (by omega)]

/-- the graph that lies behind a pointer -/
structure Gm (w : World) (gb : Nat) (G : Gph) (mk : Nat → ByteArray) : Prop where
  lt : gb < w.heap.size
  n6 : G.n ≤ 6
  cn : w.cell? ⟨gb, 0, none⟩ = some (.int .i64 (G.n : Int))
  ce : ∀ i j, i < 6 → j < 6 → w.cell? ⟨gb, 1 + i * 6 + j, none⟩ = some (.bool (G.e i j))
  cm : ∀ i, i < 6 → w.cell? ⟨gb, 37 + i, none⟩ = some (.string (mk i))
  ms : ∀ i, (mk i).size ≤ 1000
  mm : ∀ i c, i < 6 → (G.m i c = true ↔ ∃ d ∈ (mk i).data.toList, d.toNat = c)

theorem Gm.below {w w' : World} {gb K : Nat} {G : Gph} {mk : Nat → ByteArray} (h : Gm w gb G mk) (hb : Below K w w') (hk : gb < K) : Gm w' gb G mk :=
  ⟨Nat.lt_of_lt_of_le h.lt hb.size, h.n6, (hb.cell (p := ⟨gb, 0, none⟩) hk).trans h.cn, fun i j hi hj => (hb.cell (p := ⟨gb, 1 + i * 6 + j, none⟩) hk).trans (h.ce i j hi hj), fun i hi => (hb.cell (p := ⟨gb, 37 + i, none⟩) hk).trans (h.cm i hi), h.ms, h.mm⟩

theorem tlS (s : ByteArray) : tl s 0 = s.data.toList := by simp [tl]

end Go.Proofs.Ytcfbfdjmcabnkaa

namespace Go.Proofs.Ytcfbfdjmcabnkaa
open Go.RowKit Fw
set_option linter.unusedVariables false

theorem below_setCellsT (b : Nat) : ∀ (vs : List Value) (o : Nat) (w : World), Below b w (w.setCells b o vs)
  | [], _, w => Below.refl _ _
  | v :: r, o, w => ((Below.refl b w).setCell (p := ⟨b, o, none⟩) (Nat.le_refl _) v).trans (below_setCellsT b r (o + 1) _)
theorem block_setCellsT (b : Nat) : ∀ (vs : List Value) (o : Nat) (w : World) (k : Nat), k ≠ b → (w.setCells b o vs).heap[k]? = w.heap[k]?
  | [], _, w, _, _ => rfl
  | v :: r, o, w, k, h => (block_setCellsT b r (o + 1) _ k h).trans (Below.heap_setCell _ _ _ _ h)
theorem size_setCellsT (b : Nat) : ∀ (vs : List Value) (o : Nat) (w : World), (w.setCells b o vs).heap.size = w.heap.size
  | [], _, w => rfl
  | v :: r, o, w => (size_setCellsT b r (o + 1) _).trans (by simp)

/-- a whole array or struct stored; the world behind it a letter -/
theorem storeT {ops : Array Oper} {rest : List Oper} {op : Oper} {a : Act} {w : World} {Q : Exit → Act → World → Prop} (T n : Nat) (hT : (Try.prog.info? T).map (·.size) = some n) (hgd : op.guard = none) (x y : Operand) (ho : op.op = .store T x y)
    (b : Nat) (cells : Array Value) (hx : a.eval x = .pointer (some ⟨b, 0, none⟩)) (hy : a.eval y = .agg cells)
    (ht : w.there b 0 n) (hi : cells.size = n) (h1 : cells.all (·.oneCell') = true)
    (h : ∀ w', Below b w w' → w'.heap.size = w.heap.size → (∀ k, k ≠ b → w'.heap[k]? = w.heap[k]?) → w'.rangeAt b 0 cells.toList → wpList Try.prog ops Q rest (a.put op.dst undef) w') : wpList Try.prog ops Q (op :: rest) a w := by
  refine wpList_store_mid hgd T x y ho b 0 cells hx hy (by rw [hi]; exact ht) (by rw [hi]; exact hT) h1 ?_
  refine h _ (below_setCellsT b _ _ _) (size_setCellsT b _ _ _) (block_setCellsT b _ _ _) ?_
  exact World.rangeAt_setCells_same _ _ _ _ (by simpa [hi] using ht)

theorem loadT {ops : Array Oper} {rest : List Oper} {op : Oper} {a : Act} {w : World} {Q : Exit → Act → World → Prop} (T n : Nat) (hT : (Try.prog.info? T).map (·.size) = some n) (hrow : ∃ d, Try.prog.underlying T = some d ∧ d.isRow = true) (hgd : op.guard = none) (x : Operand) (ho : op.op = .load T x)
    (b : Nat) (hx : a.eval x = .pointer (some ⟨b, 0, none⟩)) (cs : List Value) (hc : w.rangeAt b 0 cs) (hl : cs.length = n)
    (h : wpList Try.prog ops Q rest (a.put op.dst (.agg cs.toArray)) w) : wpList Try.prog ops Q (op :: rest) a w := by
  obtain ⟨d, hu, hd⟩ := hrow
  exact wpList_load_mid hgd T x ho b 0 hx cs d hc hu hd (by rw [hl]; exact hT) h

theorem resultT {fn : Func} {p T n : Nat} (hf : fn.results = #[.cell p T]) (hT : (Try.prog.info? T).map (·.size) = some n) (hrow : ∃ d, Try.prog.underlying T = some d ∧ d.isRow = true) (tmps : Array Value) (w : World) (b : Nat) (cs : List Value) (hp : tmps.getD p undef = .pointer (some ⟨b, 0, none⟩)) (hc : w.rangeAt b 0 cs) (hl : cs.length = n) :
    (results fn tmps).run Try.prog w = .ok (.agg cs.toArray) w := by
  obtain ⟨d, hu, hd⟩ := hrow
  have hp' : tmps[p]?.getD undef = .pointer (some ⟨b, 0, none⟩) := by simpa using hp
  simp [results, hf, hp', asAddr, run_loadVar_mid w b 0 T cs d hc hu hd (by rw [hl]; exact hT)]

theorem Arr.there {w : World} {B n : Nat} {f : Nat → Bool} (h : Arr w B n f) : w.there B 0 n := fun j hj => by
  rw [Nat.zero_add]
  exact ⟨by rw [h.c j hj]; rfl, h.z j hj⟩

def bools (n : Nat) (f : Nat → Bool) : List Value := (List.range n).map fun k => .bool (f k)
theorem bools_len (n : Nat) (f : Nat → Bool) : (bools n f).length = n := by simp [bools]
theorem bools_one (n : Nat) (f : Nat → Bool) : (bools n f).toArray.all (·.oneCell') = true := by
  refine all_oneCell_toArray fun v hv => ?_
  simp only [bools, List.mem_map] at hv
  obtain ⟨k, _, rfl⟩ := hv
  rfl
theorem Arr.range {w : World} {B n : Nat} {f : Nat → Bool} (h : Arr w B n f) : w.rangeAt B 0 (bools n f) := by
  intro j v hv
  have hj : j < n := by
    have := (List.getElem?_eq_some_iff.1 hv).1
    rw [bools_len] at this
    exact this
  rw [Nat.zero_add]
  simp only [bools, List.getElem?_map, List.getElem?_range hj, Option.map_some] at hv
  injection hv with hv
  rw [← hv]
  exact h.c j hj
theorem bools6 (f : Nat → Bool) : (bools 6 f).toArray = six f := rfl
theorem bools_size (n : Nat) (f : Nat → Bool) : (bools n f).toArray.size = n := by simp [bools]

theorem arr_at (w : World) (S : Nat → Bool) (t : TypeId) (B : Nat) (h : w.heap.size = B) : Arr (w.alloc (.cells (six S) t)) B 6 S := by
  subst h
  exact arr_new w S t

theorem Arr.congr {w : World} {B n : Nat} {f g : Nat → Bool} (h : Arr w B n f) (hfg : ∀ j, j < n → f j = g j) : Arr w B n g :=
  ⟨h.lt, fun j hj => by rw [← hfg j hj]; exact h.c j hj, h.z⟩

/-- a set that is being made: up to k as f says, else empty -/
def upto (k : Nat) (f : Nat → Bool) : Nat → Bool := fun j => if j < k then f j else false

theorem Arr.next {w : World} {B n k : Nat} {f : Nat → Bool} (h : Arr w B n (upto k f)) (hk : k < n) (v : Bool) (hv : v = f k) : Arr (w.setCell ⟨B, k, none⟩ (.bool v)) B n (upto (k + 1) f) := by
  refine (h.set k v hk).congr fun j hj => ?_
  unfold upto
  by_cases e : j = k
  · subst e; simp [hv]
  · rw [if_neg e]
    by_cases h1 : j < k
    · rw [if_pos h1, if_pos (by omega)]
    · rw [if_neg h1, if_neg (by omega)]

theorem below3 (w : World) (o p q : Obj) : Below w.heap.size w (((w.alloc o).alloc p).alloc q) := (((Below.refl _ _).alloc (Nat.le_refl _) _).alloc (by simp) _).alloc (by simp; omega) _

theorem upto_zero (f : Nat → Bool) : upto 0 f = fun _ => false := by funext j; simp [upto]

end Go.Proofs.Ytcfbfdjmcabnkaa

namespace Go.Proofs.Ytcfbfdjmcabnkaa
open Go.RowKit Fw
set_option linter.unusedVariables false

theorem below2S (w : World) (o p : Obj) : Below w.heap.size w ((w.alloc o).alloc p) := ((Below.refl _ _).alloc (Nat.le_refl _) _).alloc (by simp) _
theorem below4 (w : World) (o p q r : Obj) : Below w.heap.size w ((((w.alloc o).alloc p).alloc q).alloc r) := (below3 w o p q).alloc (by simp; omega) _

end Go.Proofs.Ytcfbfdjmcabnkaa

namespace Go.Proofs.Ytcfbfdjmcabnkaa
open Go.RowKit Fw
set_option linter.unusedVariables false

/-- six rows of six bools in block B -/
structure Mat (w : World) (B : Nat) (M : Nat → Nat → Bool) : Prop where
  lt : B < w.heap.size
  c : ∀ i j, i < 6 → j < 6 → w.cell? ⟨B, i * 6 + j, none⟩ = some (.bool (M i j))
  z : ∀ o, o < 36 → w.frozen? ⟨B, o, none⟩ = false

theorem Mat.set {w : World} {B : Nat} {M : Nat → Nat → Bool} (h : Mat w B M) (i j : Nat) (v : Bool) (hi : i < 6) (hj : j < 6) : Mat (w.setCell ⟨B, i * 6 + j, none⟩ (.bool v)) B (fun x y => if x = i ∧ y = j then v else M x y) := by
  refine ⟨by simpa using h.lt, ?_, ?_⟩
  · intro x y hx hy
    by_cases e : x = i ∧ y = j
    · obtain ⟨rfl, rfl⟩ := e
      rw [cell_sameS (h.c x y hx hy)]
      simp
    · rw [cell_otherS (addrS (by omega)), h.c x y hx hy, if_neg e]
  · intro o ho
    rw [World.frozen?_setCell]
    exact h.z o ho

theorem Mat.congr {w : World} {B : Nat} {M N : Nat → Nat → Bool} (h : Mat w B M) (hm : ∀ i j, i < 6 → j < 6 → M i j = N i j) : Mat w B N :=
  ⟨h.lt, fun i j hi hj => by rw [← hm i j hi hj]; exact h.c i j hi hj, h.z⟩
theorem Mat.below {w w' : World} {K B : Nat} {M : Nat → Nat → Bool} (h : Mat w B M) (hb : Below K w w') (hk : B < K) : Mat w' B M :=
  ⟨Nat.lt_of_lt_of_le h.lt hb.size, fun i j hi hj => (hb.cell (p := ⟨B, i * 6 + j, none⟩) hk).trans (h.c i j hi hj), fun o ho => (hb.frozen (p := ⟨B, o, none⟩) hk).trans (h.z o ho)⟩
theorem Mat.alloc {w : World} {B : Nat} {M : Nat → Nat → Bool} (h : Mat w B M) (o : Obj) : Mat (w.alloc o) B M :=
  h.below ((Below.refl w.heap.size w).alloc (Nat.le_refl _) o) h.lt
theorem Mat.drewN {w : World} {B : Nat} {M : Nat → Nat → Bool} (h : Mat w B M) (k : Nat) : Mat (w.drewN k) B M := ⟨h.lt, h.c, h.z⟩
theorem Mat.drew {w : World} {B : Nat} {M : Nat → Nat → Bool} (h : Mat w B M) : Mat w.drew B M := ⟨h.lt, h.c, h.z⟩
theorem Arr.drew {w : World} {B n : Nat} {f : Nat → Bool} (h : Arr w B n f) : Arr w.drew B n f := ⟨h.lt, h.c, h.z⟩
theorem Mat.setOther {w : World} {B : Nat} {M : Nat → Nat → Bool} (h : Mat w B M) {a : Addr} (v : Value) (ha : a.block ≠ B) : Mat (w.setCell a v) B M := by
  refine ⟨by simpa using h.lt, ?_, ?_⟩
  · intro i j hi hj
    rw [cell_otherS (by intro e; rw [e] at ha; exact ha rfl)]
    exact h.c i j hi hj
  · intro j hj
    rw [World.frozen?_setCell]
    exact h.z j hj
theorem Mat.there {w : World} {B : Nat} {M : Nat → Nat → Bool} (h : Mat w B M) : w.there B 0 36 := fun j hj => by
  rw [Nat.zero_add]
  have := h.c (j / 6) (j % 6) (by omega) (by omega)
  rw [show j / 6 * 6 + j % 6 = j from by omega] at this
  exact ⟨by rw [this]; rfl, h.z j hj⟩

def flat6 (M : Nat → Nat → Bool) : Nat → Bool := fun k => M (k / 6) (k % 6)

theorem Mat.range {w : World} {B : Nat} {M : Nat → Nat → Bool} (h : Mat w B M) : w.rangeAt B 0 (bools 36 (flat6 M)) := by
  intro j v hv
  have hj : j < 36 := by
    have := (List.getElem?_eq_some_iff.1 hv).1
    rw [bools_len] at this
    exact this
  rw [Nat.zero_add]
  simp only [bools, List.getElem?_map, List.getElem?_range hj, Option.map_some] at hv
  injection hv with hv
  rw [← hv]
  have := h.c (j / 6) (j % 6) (by omega) (by omega)
  rw [show j / 6 * 6 + j % 6 = j from by omega] at this
  exact this

theorem mat_of_range {w : World} {B : Nat} {M : Nat → Nat → Bool} (hlt : B < w.heap.size) (h : w.rangeAt B 0 (bools 36 (flat6 M))) (hz : ∀ o, o < 36 → w.frozen? ⟨B, o, none⟩ = false) : Mat w B M := by
  refine ⟨hlt, fun i j hi hj => ?_, hz⟩
  have hl : i * 6 + j < 36 := by omega
  have := h (i * 6 + j) (.bool (M i j)) (by
    simp only [bools, List.getElem?_map, List.getElem?_range hl, Option.map_some, flat6]
    rw [show (i * 6 + j) / 6 = i from by omega, show (i * 6 + j) % 6 = j from by omega])
  rw [Nat.zero_add] at this
  exact this

theorem arr_of_range {w : World} {B n : Nat} {f : Nat → Bool} (hlt : B < w.heap.size) (h : w.rangeAt B 0 (bools n f)) (hz : ∀ o, o < n → w.frozen? ⟨B, o, none⟩ = false) : Arr w B n f := by
  refine ⟨hlt, fun j hj => ?_, hz⟩
  have := h j (.bool (f j)) (by simp only [bools, List.getElem?_map, List.getElem?_range hj, Option.map_some])
  rw [Nat.zero_add] at this
  exact this

theorem zero36_is : (#[.bool false, .bool false, .bool false, .bool false, .bool false, .bool false, .bool false, .bool false, .bool false, .bool false, .bool false, .bool false, .bool false, .bool false, .bool false, .bool false, .bool false, .bool false, .bool false, .bool false, .bool false, .bool false, .bool false, .bool false, .bool false, .bool false, .bool false, .bool false, .bool false, .bool false, .bool false, .bool false, .bool false, .bool false, .bool false, .bool false] : Array Value) = Array.replicate 36 (.bool false) := rfl

theorem mat_new (w : World) (t B : Nat) (hB : w.heap.size = B) : Mat (w.alloc (.cells #[.bool false, .bool false, .bool false, .bool false, .bool false, .bool false, .bool false, .bool false, .bool false, .bool false, .bool false, .bool false, .bool false, .bool false, .bool false, .bool false, .bool false, .bool false, .bool false, .bool false, .bool false, .bool false, .bool false, .bool false, .bool false, .bool false, .bool false, .bool false, .bool false, .bool false, .bool false, .bool false, .bool false, .bool false, .bool false, .bool false] t)) B (fun _ _ => false) := by
  subst hB
  rw [zero36_is]
  have hb := heap_alloc_new w (.cells (Array.replicate 36 (.bool false)) t)
  refine ⟨by simp, fun i j hi hj => ?_, fun o _ => frozen_of_row _ _ _ _ _ hb⟩
  rw [cell_of_row _ _ _ _ _ _ hb, Array.getElem?_replicate, if_pos (by omega)]

theorem fw_out {G : Gph} (ok : G.ok) {S : Nat → Bool} : ∀ k i j, (G.n ≤ i ∨ G.n ≤ j) → fw G.e S k i j = false := by
  intro k
  induction k with
  | zero =>
    intro i j h
    have : G.e i j = false := by
      rw [Bool.eq_false_iff]
      intro he
      have := ok i j he
      omega
    simp [fw, this]
  | succ k ih =>
    intro i j h
    rw [fw, ih i j h]
    rcases h with h | h
    · rw [ih i k (.inl h)]; rfl
    · rw [ih k j (.inr h)]; simp

theorem fw_col (e : Nat → Nat → Bool) (S : Nat → Bool) (k i : Nat) : fw e S (k + 1) i k = fw e S k i k := by
  rw [fw]; cases fw e S k i k <;> simp
theorem fw_row (e : Nat → Nat → Bool) (S : Nat → Bool) (k j : Nat) : fw e S (k + 1) k j = fw e S k k j := by
  rw [fw]; cases fw e S k k j <;> simp

/-- the table in the midst of a round: what is done already, what is not -/
def half (done todo : Nat → Nat → Bool) (k l : Nat) : Nat → Nat → Bool := fun i j => if i < k ∨ (i = k ∧ j < l) then done i j else todo i j

theorem half_step {done todo : Nat → Nat → Bool} {k l : Nat} : (fun x y => if x = k ∧ y = l then done k l else half done todo k l x y) = half done todo k (l + 1) := by
  funext x y
  unfold half
  by_cases e : x = k ∧ y = l
  · obtain ⟨rfl, rfl⟩ := e
    rw [if_pos ⟨rfl, rfl⟩, if_pos (by omega)]
  · rw [if_neg e]
    by_cases h : x < k ∨ (x = k ∧ y < l)
    · rw [if_pos h, if_pos (by omega)]
    · rw [if_neg h, if_neg (by omega)]

theorem half_row {done todo : Nat → Nat → Bool} {k l n : Nat} (hl : n ≤ l) (h : ∀ j, n ≤ j → done k j = todo k j) : ∀ i j, half done todo k l i j = half done todo (k + 1) 0 i j := by
  intro i j
  unfold half
  by_cases h1 : i < k
  · rw [if_pos (.inl h1), if_pos (by omega)]
  · by_cases h2 : i = k
    · subst h2
      by_cases h3 : j < l
      · rw [if_pos (by omega), if_pos (by omega)]
      · rw [if_neg (by omega), if_pos (by omega)]
        exact (h j (by omega)).symm
    · rw [if_neg (by omega), if_neg (by omega)]

theorem half_all {done todo : Nat → Nat → Bool} {k n : Nat} (hk : n ≤ k) (h : ∀ i j, n ≤ i → done i j = todo i j) : ∀ i j, half done todo k 0 i j = done i j := by
  intro i j
  unfold half
  by_cases h1 : i < k
  · rw [if_pos (.inl h1)]
  · rw [if_neg (by omega)]
    exact (h i j (by omega)).symm

theorem half_none {done todo : Nat → Nat → Bool} : ∀ i j, half done todo 0 0 i j = todo i j := by
  intro i j
  unfold half
  rw [if_neg (by omega)]

end Go.Proofs.Ytcfbfdjmcabnkaa

namespace Go.Proofs.Ytcfbfdjmcabnkaa
open Go.RowKit Fw
set_option linter.unusedVariables false

theorem fw_zero_no {e : Nat → Nat → Bool} {S : Nat → Bool} {k l : Nat} (h : S k = false) : fw e S 0 k l = false := by simp [fw, h]
theorem fw_zero_yes {e : Nat → Nat → Bool} {S : Nat → Bool} {k l : Nat} (h : S k = true) : fw e S 0 k l = e k l := by simp [fw, h]
theorem mat_step {w : World} {B : Nat} {done todo : Nat → Nat → Bool} {k l : Nat} (h : Mat w B (half done todo k l)) (hk : k < 6) (hl : l < 6) {v : Bool} (hv : v = done k l) : Mat (w.setCell ⟨B, k * 6 + l, none⟩ (.bool v)) B (half done todo k (l + 1)) := by
  rw [← half_step, ← hv]
  exact h.set k l v hk hl
theorem half_here {done todo : Nat → Nat → Bool} {k l : Nat} : half done todo k l k l = todo k l := by
  unfold half
  rw [if_neg (by omega)]
/-- a cell that the round does not turn -/
theorem half_same {done todo : Nat → Nat → Bool} {k l i j : Nat} (h : done i j = todo i j) : half done todo k l i j = todo i j := by
  unfold half
  split
  · exact h
  · rfl

end Go.Proofs.Ytcfbfdjmcabnkaa

namespace Go.Proofs.Ytcfbfdjmcabnkaa
open Go.RowKit Fw
set_option linter.unusedVariables false

/-- does one of the first n bear it -/
def anyU (p : Nat → Bool) (n : Nat) : Bool := (List.range n).any p
theorem anyU_zero (p : Nat → Bool) : anyU p 0 = false := rfl
theorem anyU_succ (p : Nat → Bool) (n : Nat) : anyU p (n + 1) = (anyU p n || p n) := by
  simp [anyU, List.range_succ]
theorem anyU_anyN (G : Gph) (p : Nat → Bool) : anyU p G.n = anyN G p := rfl

def meets (G : Gph) (M : Nat → Nat → Bool) (S : Nat → Bool) (c f d : Nat) : Bool := S d && G.m d f && M c d && M d c
def allM (G : Gph) (M : Nat → Nat → Bool) (S : Nat → Bool) (c : Nat) (l : List UInt8) : Bool := (l.map (·.toNat)).all fun f => anyU (meets G M S c f) G.n

theorem allM_nil (G : Gph) (M : Nat → Nat → Bool) (S : Nat → Bool) (c : Nat) {s : ByteArray} {k : Nat} (h : s.size ≤ k) : allM G M S c (tl s k) = true := by
  rw [tl_nil s k h]; rfl
theorem allM_cons (G : Gph) (M : Nat → Nat → Bool) (S : Nat → Bool) (c : Nat) {s : ByteArray} {k : Nat} (h : k < s.size) : allM G M S c (tl s k) = (anyU (meets G M S c s[k].toNat) G.n && allM G M S c (tl s (k + 1))) := by
  rw [tl_cons s k h]; rfl

theorem mat_box (w : World) (M : Nat → Nat → Bool) (t : TypeId) : Mat (w.alloc (.cells (bools 36 (flat6 M)).toArray t)) w.heap.size M := by
  have hb := heap_alloc_new w (.cells (bools 36 (flat6 M)).toArray t)
  refine ⟨by simp, fun i j hi hj => ?_, fun o _ => frozen_of_row _ _ _ _ _ hb⟩
  rw [cell_of_row _ _ _ _ _ _ hb]
  have hl : i * 6 + j < 36 := by omega
  simp only [bools, List.getElem?_toArray, List.getElem?_map, List.getElem?_range hl, Option.map_some, flat6]
  rw [show (i * 6 + j) / 6 = i from by omega, show (i * 6 + j) % 6 = j from by omega]

end Go.Proofs.Ytcfbfdjmcabnkaa

namespace Go.Proofs.Ytcfbfdjmcabnkaa
open Go.RowKit Fw
set_option linter.unusedVariables false

/-- a set in the making: whole up to i, v at i -/
def part (i : Nat) (F : Nat → Bool) (v : Bool) : Nat → Bool := fun j => if j < i then F j else if j = i then v else false
theorem part_false (i : Nat) (F : Nat → Bool) : part i F false = upto i F := by
  funext j; unfold part upto; split <;> simp
theorem part_whole (i : Nat) (F : Nat → Bool) {v : Bool} (h : v = F i) : part i F v = upto (i + 1) F := by
  funext j; unfold part upto
  by_cases h1 : j < i
  · rw [if_pos h1, if_pos (by omega)]
  · rw [if_neg h1]
    by_cases h2 : j = i
    · subst h2; rw [if_pos rfl, if_pos (by omega), h]
    · rw [if_neg h2, if_neg (by omega)]
theorem part_here (i : Nat) (F : Nat → Bool) (v : Bool) : part i F v i = v := by
  unfold part; rw [if_neg (by omega), if_pos rfl]
theorem Arr.part {w : World} {B n i : Nat} {F : Nat → Bool} {v : Bool} (h : Arr w B n (part i F v)) (hi : i < n) (u t : Bool) (hu : u = t) : Arr (w.setCell ⟨B, i, none⟩ (.bool u)) B n (Ytcfbfdjmcabnkaa.part i F t) := by
  subst hu
  refine (h.set i u hi).congr fun j hj => ?_
  unfold Ytcfbfdjmcabnkaa.part
  by_cases e : j = i
  · subst e; rw [if_pos rfl, if_neg (by omega), if_pos rfl]
  · rw [if_neg e, if_neg e, if_neg e]
theorem Arr.partIn {w : World} {B n i : Nat} {F : Nat → Bool} (h : Arr w B n (upto i F)) : Arr w B n (Ytcfbfdjmcabnkaa.part i F false) := by rw [part_false]; exact h
theorem Arr.partOut {w : World} {B n i : Nat} {F : Nat → Bool} {v : Bool} (h : Arr w B n (Ytcfbfdjmcabnkaa.part i F v)) (hv : v = F i) : Arr w B n (upto (i + 1) F) := by rw [← part_whole i F hv]; exact h

def fsOf (f : ByteArray) : List Nat := (tl f 0).map (·.toNat)

theorem Below.to {w w1 w2 : World} (h : Below w.heap.size w w1) (g : Below w1.heap.size w1 w2) : Below w.heap.size w w2 := h.trans (g.mono h.size)

end Go.Proofs.Ytcfbfdjmcabnkaa

namespace Go.Proofs.Ytcfbfdjmcabnkaa
open Go.RowKit Fw
set_option linter.unusedVariables false

end Go.Proofs.Ytcfbfdjmcabnkaa

namespace Go.Proofs.Ytcfbfdjmcabnkaa
open Go.RowKit Fw
set_option linter.unusedVariables false

theorem fullB_is (G : Gph) : (upto G.n fun _ => true) = fullB G := by
  funext j
  unfold upto fullB
  by_cases h : j < G.n <;> simp [h]
theorem anyN_congr {G : Gph} {p q : Nat → Bool} (h : ∀ j, j < G.n → p j = q j) : anyN G p = anyN G q := by
  rw [Bool.eq_iff_iff, anyN_iff, anyN_iff]
  exact ⟨fun ⟨j, hj, hp⟩ => ⟨j, hj, (h j hj) ▸ hp⟩, fun ⟨j, hj, hp⟩ => ⟨j, hj, (h j hj).symm ▸ hp⟩⟩
theorem upto_lt {n j : Nat} {f : Nat → Bool} (h : j < n) : upto n f j = f j := by unfold upto; rw [if_pos h]
theorem upto_congr {n : Nat} {f g : Nat → Bool} (h : ∀ j, j < n → f j = g j) : upto n f = upto n g := by
  funext j; unfold upto; split
  · next h1 => exact h j h1
  · rfl
theorem comes_upto (G : Gph) (a b c : Nat → Bool) (h : ∀ j, j < G.n → b j = c j) : upto G.n (comesB G a b) = upto G.n (comesB G a c) := by
  refine upto_congr fun i hi => ?_
  unfold comesB
  rw [h i hi, anyN_congr fun j hj => by rw [h j hj]]

theorem cells1 {w : World} {B : Nat} {f : Nat → Bool} (h : Arr w B 6 f) : w.cell? ⟨B, 0, none⟩ = some (.bool (f 0)) ∧ w.cell? ⟨B, 1, none⟩ = some (.bool (f 1)) ∧ w.cell? ⟨B, 2, none⟩ = some (.bool (f 2)) ∧ w.cell? ⟨B, 3, none⟩ = some (.bool (f 3)) ∧ w.cell? ⟨B, 4, none⟩ = some (.bool (f 4)) ∧ w.cell? ⟨B, 5, none⟩ = some (.bool (f 5)) :=
  ⟨h.c 0 (by omega), h.c 1 (by omega), h.c 2 (by omega), h.c 3 (by omega), h.c 4 (by omega), h.c 5 (by omega)⟩
theorem zero6 {w : World} {B : Nat} {f : Nat → Bool} (h : Arr w B 6 f) : w.frozen? ⟨B, 0, none⟩ = false ∧ w.frozen? ⟨B, 1, none⟩ = false ∧ w.frozen? ⟨B, 2, none⟩ = false ∧ w.frozen? ⟨B, 3, none⟩ = false ∧ w.frozen? ⟨B, 4, none⟩ = false ∧ w.frozen? ⟨B, 5, none⟩ = false :=
  ⟨h.z 0 (by omega), h.z 1 (by omega), h.z 2 (by omega), h.z 3 (by omega), h.z 4 (by omega), h.z 5 (by omega)⟩
theorem Arr.otherK {w w' : World} {B R n : Nat} {f : Nat → Bool} (h : Arr w B n f) (hs : w'.heap.size = w.heap.size) (hk : ∀ k, k ≠ R → w'.heap[k]? = w.heap[k]?) (hr : R ≠ B) : Arr w' B n f := by
  have hb := hk B (Ne.symm hr)
  refine ⟨by rw [hs]; exact h.lt, fun j hj => ?_, fun j hj => ?_⟩
  · rw [← h.c j hj]
    unfold World.cell?
    simp only [hb]
  · rw [← h.z j hj]
    unfold World.frozen?
    simp only [hb]
theorem stores6 {w : World} {R : Nat} {f : Nat → Bool} (h : Arr w R 6 f) (g : Nat → Bool) : ∃ w', (storeCells ⟨R, 0, none⟩ (six g).toList).run Try.prog w = .ok () w' ∧ Below R w w' ∧ w'.heap.size = w.heap.size ∧ (∀ k, k ≠ R → w'.heap[k]? = w.heap[k]?) ∧ Arr w' R 6 g := by
  have hc := run_storeCells_cells (P := Try.prog) R 0 (six g).toList 0 w (fun j hj => by simpa using (h.there j (by simpa [six] using hj)).1) (fun j hj => by simpa using (h.there j (by simpa [six] using hj)).2) (fun v hv => (Array.all_eq_true_iff_forall_mem.1 (bools_one 6 g)) v (by
    have : v ∈ (six g).toList := hv
    simpa [six, bools, List.range, List.range.loop] using this))
  refine ⟨_, hc, below_setCellsT R _ _ _, size_setCellsT R _ _ _, block_setCellsT R _ _ _, ?_⟩
  have hr : (w.setCells R 0 (six g).toList).rangeAt R 0 (bools 6 g) := World.rangeAt_setCells_same w R 0 (six g).toList h.there
  refine arr_of_range ?_ hr ?_
  · rw [size_setCellsT]; exact h.lt
  · intro o ho
    rw [World.frozen?_setCells]
    exact h.z o ho

end Go.Proofs.Ytcfbfdjmcabnkaa

namespace Go.Proofs.Ytcfbfdjmcabnkaa
open Go.RowKit Fw
set_option linter.unusedVariables false

theorem arr_zero (w : World) (t : TypeId) : Arr (w.alloc (.cells #[.bool false, .bool false, .bool false, .bool false, .bool false, .bool false] t)) w.heap.size 6 (fun _ => false) := arr_new w (fun _ => false) t
theorem Below.past {w w' : World} {o : Obj} (h : Below (w.alloc o).heap.size (w.alloc o) w') : Below w.heap.size w w' := ((Below.refl _ _).alloc (Nat.le_refl _) _).trans (h.mono (by simp))
theorem Below.dr {w w' : World} (h : Below w.drew.heap.size w.drew w') : Below w.heap.size w w' := (Below.refl _ _).drew.trans h
theorem Below.al {w0 w : World} {o : Obj} (h : Below w0.heap.size w0 w) : Below w0.heap.size w0 (w.alloc o) := h.alloc (Nat.le_trans h.size (Nat.le_refl _)) _
abbrev Arr.same {w : World} {B n : Nat} {f : Nat → Bool} (_ : Hid (Arr w B n f)) (w' : World) (g : Nat → Bool) : Prop := Arr w' B n g
abbrev Arr.blk {w : World} {B n : Nat} {f : Nat → Bool} (_ : Hid (Arr w B n f)) : Nat := B
/-- the one turned into the other, up to i -/
def mix (i : Nat) (F C : Nat → Bool) : Nat → Bool := fun j => if j < i then F j else C j
theorem mix_zero (F C : Nat → Bool) : mix 0 F C = C := by funext j; simp [mix]
theorem mix_here (i : Nat) (F C : Nat → Bool) : mix i F C i = C i := by simp [mix]
theorem mix_all (n : Nat) (F C : Nat → Bool) : mix n F (upto n C) = upto n F := by
  funext j; unfold mix upto; split
  · rfl
  · rfl
theorem Arr.mix {w : World} {B n i : Nat} {F C : Nat → Bool} (h : Arr w B n (mix i F C)) (hi : i < n) (v : Bool) (hv : v = F i) : Arr (w.setCell ⟨B, i, none⟩ (.bool v)) B n (Ytcfbfdjmcabnkaa.mix (i + 1) F C) := by
  refine (h.set i v hi).congr fun j hj => ?_
  unfold Ytcfbfdjmcabnkaa.mix
  by_cases e : j = i
  · subst e; simp [hv]
  · rw [if_neg e]
    by_cases h1 : j < i
    · rw [if_pos h1, if_pos (by omega)]
    · rw [if_neg h1, if_neg (by omega)]

end Go.Proofs.Ytcfbfdjmcabnkaa

