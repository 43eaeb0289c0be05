import Derived.Test.YtkjnhhbibaimfaaSa
import Derived.Deep.MidRow
namespace Go.Proofs.Ytkjnhhbibaimfaa
open Go.RowKit Fw
set_option linter.unusedVariables false

theorem below_setCellsT (b : Nat) : ∀ (vs : List Value) (o : Nat) (w : World), Below b w (w.setCells b o vs)
  | [], _, w => Below.refl _ _
  | v :: r, o, w => ((Below.refl b w).setCell (p := ⟨b, o, none⟩) (Nat.le_refl _) v).trans (below_setCellsT b r (o + 1) _)
theorem block_setCellsT (b : Nat) : ∀ (vs : List Value) (o : Nat) (w : World) (k : Nat), k ≠ b → (w.setCells b o vs).heap[k]? = w.heap[k]?
  | [], _, w, _, _ => rfl
  | v :: r, o, w, k, h => (block_setCellsT b r (o + 1) _ k h).trans (Below.heap_setCell _ _ _ _ h)
theorem size_setCellsT (b : Nat) : ∀ (vs : List Value) (o : Nat) (w : World), (w.setCells b o vs).heap.size = w.heap.size
  | [], _, w => rfl
  | v :: r, o, w => (size_setCellsT b r (o + 1) _).trans (by simp)

/-- a whole array or struct stored; the world behind it a letter -/
theorem storeT {ops : Array Oper} {rest : List Oper} {op : Oper} {a : Act} {w : World} {Q : Exit → Act → World → Prop} (T n : Nat) (hT : (Try.prog.info? T).map (·.size) = some n) (hgd : op.guard = none) (x y : Operand) (ho : op.op = .store T x y)
    (b : Nat) (cells : Array Value) (hx : a.eval x = .pointer (some ⟨b, 0, none⟩)) (hy : a.eval y = .agg cells)
    (ht : w.there b 0 n) (hi : cells.size = n) (h1 : cells.all (·.oneCell') = true)
    (h : ∀ w', Below b w w' → w'.heap.size = w.heap.size → (∀ k, k ≠ b → w'.heap[k]? = w.heap[k]?) → w'.rangeAt b 0 cells.toList → wpList Try.prog ops Q rest (a.put op.dst undef) w') : wpList Try.prog ops Q (op :: rest) a w := by
  refine wpList_store_mid hgd T x y ho b 0 cells hx hy (by rw [hi]; exact ht) (by rw [hi]; exact hT) h1 ?_
  refine h _ (below_setCellsT b _ _ _) (size_setCellsT b _ _ _) (block_setCellsT b _ _ _) ?_
  exact World.rangeAt_setCells_same _ _ _ _ (by simpa [hi] using ht)

theorem loadT {ops : Array Oper} {rest : List Oper} {op : Oper} {a : Act} {w : World} {Q : Exit → Act → World → Prop} (T n : Nat) (hT : (Try.prog.info? T).map (·.size) = some n) (hrow : ∃ d, Try.prog.underlying T = some d ∧ d.isRow = true) (hgd : op.guard = none) (x : Operand) (ho : op.op = .load T x)
    (b : Nat) (hx : a.eval x = .pointer (some ⟨b, 0, none⟩)) (cs : List Value) (hc : w.rangeAt b 0 cs) (hl : cs.length = n)
    (h : wpList Try.prog ops Q rest (a.put op.dst (.agg cs.toArray)) w) : wpList Try.prog ops Q (op :: rest) a w := by
  obtain ⟨d, hu, hd⟩ := hrow
  exact wpList_load_mid hgd T x ho b 0 hx cs d hc hu hd (by rw [hl]; exact hT) h

theorem resultT {fn : Func} {p T n : Nat} (hf : fn.results = #[.cell p T]) (hT : (Try.prog.info? T).map (·.size) = some n) (hrow : ∃ d, Try.prog.underlying T = some d ∧ d.isRow = true) (tmps : Array Value) (w : World) (b : Nat) (cs : List Value) (hp : tmps.getD p undef = .pointer (some ⟨b, 0, none⟩)) (hc : w.rangeAt b 0 cs) (hl : cs.length = n) :
    (results fn tmps).run Try.prog w = .ok (.agg cs.toArray) w := by
  obtain ⟨d, hu, hd⟩ := hrow
  have hp' : tmps[p]?.getD undef = .pointer (some ⟨b, 0, none⟩) := by simpa using hp
  simp [results, hf, hp', asAddr, run_loadVar_mid w b 0 T cs d hc hu hd (by rw [hl]; exact hT)]

theorem Try.size111 : (Try.prog.info? 111).map (·.size) = some 6 := by kernel_rfl
theorem Try.row111 : ∃ d, Try.prog.underlying 111 = some d ∧ d.isRow = true := ⟨_, Try.underlying111, rfl⟩

theorem Arr.there {w : World} {B n : Nat} {f : Nat → Bool} (h : Arr w B n f) : w.there B 0 n := fun j hj => by
  rw [Nat.zero_add]
  exact ⟨by rw [h.c j hj]; rfl, h.z j hj⟩

def bools (n : Nat) (f : Nat → Bool) : List Value := (List.range n).map fun k => .bool (f k)
theorem bools_len (n : Nat) (f : Nat → Bool) : (bools n f).length = n := by simp [bools]
theorem bools_one (n : Nat) (f : Nat → Bool) : (bools n f).toArray.all (·.oneCell') = true := by
  refine all_oneCell_toArray fun v hv => ?_
  simp only [bools, List.mem_map] at hv
  obtain ⟨k, _, rfl⟩ := hv
  rfl
theorem Arr.range {w : World} {B n : Nat} {f : Nat → Bool} (h : Arr w B n f) : w.rangeAt B 0 (bools n f) := by
  intro j v hv
  have hj : j < n := by
    have := (List.getElem?_eq_some_iff.1 hv).1
    rw [bools_len] at this
    exact this
  rw [Nat.zero_add]
  simp only [bools, List.getElem?_map, List.getElem?_range hj, Option.map_some] at hv
  injection hv with hv
  rw [← hv]
  exact h.c j hj
theorem bools6 (f : Nat → Bool) : (bools 6 f).toArray = six f := rfl
theorem bools_size (n : Nat) (f : Nat → Bool) : (bools n f).toArray.size = n := by simp [bools]

theorem arr_at (w : World) (S : Nat → Bool) (t : TypeId) (B : Nat) (h : w.heap.size = B) : Arr (w.alloc (.cells (six S) t)) B 6 S := by
  subst h
  exact arr_new w S t

theorem Arr.congr {w : World} {B n : Nat} {f g : Nat → Bool} (h : Arr w B n f) (hfg : ∀ j, j < n → f j = g j) : Arr w B n g :=
  ⟨h.lt, fun j hj => by rw [← hfg j hj]; exact h.c j hj, h.z⟩

/-- a set that is being made: up to k as f says, else empty -/
def upto (k : Nat) (f : Nat → Bool) : Nat → Bool := fun j => if j < k then f j else false

theorem Arr.next {w : World} {B n k : Nat} {f : Nat → Bool} (h : Arr w B n (upto k f)) (hk : k < n) (v : Bool) (hv : v = f k) : Arr (w.setCell ⟨B, k, none⟩ (.bool v)) B n (upto (k + 1) f) := by
  refine (h.set k v hk).congr fun j hj => ?_
  unfold upto
  by_cases e : j = k
  · subst e; simp [hv]
  · rw [if_neg e]
    by_cases h1 : j < k
    · rw [if_pos h1, if_pos (by omega)]
    · rw [if_neg h1, if_neg (by omega)]

theorem below3 (w : World) (o p q : Obj) : Below w.heap.size w (((w.alloc o).alloc p).alloc q) := (((Below.refl _ _).alloc (Nat.le_refl _) _).alloc (by simp) _).alloc (by simp; omega) _

theorem upto_zero (f : Nat → Bool) : upto 0 f = fun _ => false := by funext j; simp [upto]

set_option maxRecDepth 100000 in
set_option maxHeartbeats 1000000 in
theorem without_is (gb : Nat) (G : Gph) (mk : Nat → ByteArray) (a : Nat → Bool) (w : World) (HG : Hid (Gm w gb G mk)) :
    Calls Try.prog 79 #[.pointer (some ⟨gb, 0, none⟩), .agg (six a)] w fun e w' => e = .returned (.agg (six (upto G.n fun j => !(a j)))) ∧ Below w.heap.size w w' := by
  have hg6 := HG.out.n6
  have hgl := HG.out.lt
  go_enter Try.func79, Try.ntmps79
  go_wp2_with fail
  go_loopw [6] (fun q wr => ∃ k : Nat, k ≤ G.n ∧ q = .int .i64 k ∧ Below w.heap.size w wr ∧ Hid (Arr wr w.heap.size 6 a) ∧ Hid (Arr wr (w.heap.size + 1) 6 (fun _ => false)) ∧ Hid (Arr wr (w.heap.size + 1 + 1) 6 (upto k fun j => !(a j)))) (fun q _ => G.n - (intOf q).toNat)
  case atStart =>
    refine ⟨0, by omega, rfl, below3 w _ _ _, ((arr_new w a 111).alloc _).alloc _, (arr_at (w.alloc _) (fun _ => false) 111 _ (by simp)).alloc _, ?_⟩
    show Arr _ _ _ _
    rw [upto_zero]
    exact arr_at _ (fun _ => false) 111 _ (by simp)
  case round =>
    obtain ⟨k, hk, rfl, hbel, HA, HR, HS⟩ := hrel
    have hn := (HG.out.below hbel hgl).cn
    have e1 : w.heap.size ≠ w.heap.size + 1 + 1 := by omega
    have e2 : w.heap.size + 1 ≠ w.heap.size + 1 + 1 := by omega
    by_cases hlt : k < G.n
    · have ca := HA.out.c k (by omega)
      have cs := HS.out.c k (by omega)
      have zs := HS.out.z k (by omega)
      have k0 : (0 : Int) ≤ (k : Int) := by omega
      have k1 : (k : Int) < 6 := by omega
      go_wp2_with fail
      go_roundw
      case rel => exact ⟨k + 1, by omega, by go_num, hbel.setCell (by simp; omega) _, HA.out.setOther _ (Ne.symm e1), HR.out.setOther _ (Ne.symm e2), HS.out.next (by omega) _ rfl⟩
      case measure => simp [intOf]; omega
    · have hkn : k = G.n := by omega
      have HK : Hid (k = G.n) := hkn
      clear hkn
      go_wp2_with (first | (refine loadT 111 6 Try.size111 Try.row111 (by rfl) _ (by rfl) (w.heap.size + 1 + 1) (by rfl) _ HS.out.range (bools_len _ _) ?_) | (refine storeT 111 6 Try.size111 (by rfl) _ _ (by rfl) (w.heap.size + 1) _ (by rfl) (by rfl) HR.out.there (bools_size _ _) (bools_one _ _) ?_; intro w5 hb5 hz5 hk5 hr5))
      refine bodyPost_ret (v := .agg (bools 6 (upto k fun j => !(a j))).toArray) (resultT Try.results79 Try.size111 Try.row111 _ _ (w.heap.size + 1) _ rfl hr5 (by simp [bools_len])) rfl ⟨?_, hbel.trans (hb5.mono (by omega))⟩
      rw [HK.out]
      rfl

end Go.Proofs.Ytkjnhhbibaimfaa
