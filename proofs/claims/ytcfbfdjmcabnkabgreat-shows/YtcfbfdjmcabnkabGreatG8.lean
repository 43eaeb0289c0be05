import Derived.BigQuiet
import Derived.BigRegion
import Derived.Deep.MidRow
import Derived.Deep.RegionHeld3
import Derived.Test.YtcfbfdjmcabnkabGreatG2
import Derived.Test.YtcfbfdjmcabnkabGreatG1
set_option maxRecDepth 100000
set_option maxHeartbeats 4000000
namespace Go.Proofs.YtcfbfdjmcabnkabGreat
open Go.RowKit Fw
set_option linter.unusedVariables false
def findc (c : Nat) : List UInt8 -> Nat
 | [] => 0
 | d :: r => if d.toNat = c then 0 else findc c r + 1
theorem findc_le (c : Nat) (l : List UInt8) : findc c l <= l.length := by
 induction l with
 | nil => exact Nat.le_refl _
 | cons d r ih => unfold findc; split <;> simp; omega
theorem findc_lt (c : Nat) (l : List UInt8) : findc c l < l.length ↔ ∃ d ∈ l, d.toNat = c := by
 induction l with
 | nil => simp [findc]
 | cons d r ih =>
   unfold findc
   by_cases h : d.toNat = c
   · simp [h]
   · rw [if_neg h]
     simp only [List.length_cons, List.mem_cons]
     constructor
     · intro h1
       obtain ⟨x, hx, he⟩ := ih.1 (by omega)
       exact ⟨x, .inr hx, he⟩
     · rintro ⟨x, rfl | hx, he⟩
       · exact absurd he h
       · have := ih.2 ⟨x, hx, he⟩
         omega
theorem findc_yes {s : ByteArray} {c k : Nat} (h : k < s.size) (hc : s[k].toNat = c) : findc c (tl s k) = 0 := by
 rw [tl_cons s k h, findc, if_pos hc]
theorem findc_no {s : ByteArray} {c k : Nat} (h : k < s.size) (hc : ¬ s[k].toNat = c) : findc c (tl s k) = findc c (tl s (k + 1)) + 1 := by
 rw [tl_cons s k h, findc, if_neg hc]
theorem findc_end {s : ByteArray} {c k : Nat} (h : s.size <= k) : findc c (tl s k) = 0 := by
 rw [tl_nil s k h]; rfl
theorem upTo_is (s : ByteArray) (p c : Nat) (w : World) (hs : s.size <= 140737488351232) (hp : p <= s.size) :
   Calls Tryz.prog 59 #[.string s, .int .i64 (p : Int), .int .u8 (c : Int)] w fun e w' => e = .returned (.int .i64 ((p + findc c (tl s p) : Nat) : Int)) ∧ w' = w := by
 go_enter Tryz.func59, Tryz.ntmps59
 go_wp2
 go_loop [7] (fun q => ∃ k : Nat, k <= s.size ∧ q = .int .i64 k ∧ Hid (k + findc c (tl s k) = p + findc c (tl s p))) (fun q => s.size - (intOf q).toNat)
 case atStart => exact ⟨p, hp, rfl, rfl⟩
 case round =>
   obtain ⟨k, hk, rfl, HF⟩ := hrel
   by_cases hlt : k < s.size
   · by_cases hc : s[k].toNat = c
     · have hc' : ((s[k].toNat : Int) == (c : Int)) = true := by rw [beq_iff_eq]; omega
       have HZ : Hid (findc c (tl s k) = 0) := findc_yes hlt hc
       clear hc
       go_wp2
       go_ret
       have h := HF.out
       rw [HZ.out] at h
       exact ⟨ret_int (by omega), rfl⟩
     · have hc' : ((s[k].toNat : Int) == (c : Int)) = false := by rw [beq_eq_false_iff_ne]; omega
       have HZ : Hid (findc c (tl s k) = findc c (tl s (k + 1)) + 1) := findc_no hlt hc
       go_wp2
       go_round
       case rel =>
         refine ⟨k + 1, by omega, by go_num, ?_⟩
         have h := HF.out
         rw [HZ.out] at h
         show _ = _
         omega
       case measure => simp [intOf]; omega
   · go_wp2
     go_ret
     have h := HF.out
     rw [findc_end (by omega)] at h
     exact ⟨ret_int (by omega), rfl⟩
theorem upTo_0 (s : ByteArray) (c : Nat) (w : World) (hs : s.size <= 140737488351232) :
   Calls Tryz.prog 59 #[.string s, .int .i64 0, .int .u8 (c : Int)] w fun e w' => e = .returned (.int .i64 ((findc c (tl s 0) : Nat) : Int)) ∧ w' = w := by
 have := upTo_is s 0 c w hs (by omega)
 rw [Nat.zero_add] at this
 exact this
structure Arr (w : World) (B n : Nat) (f : Nat -> Bool) : Prop where
 lt : B < w.heap.size
 c : ∀ j, j < n -> w.cell? ⟨B, j, none⟩ = some (.bool (f j))
 z : ∀ j, j < n -> w.frozen? ⟨B, j, none⟩ = false
theorem addrS {b o p : Nat} (h : o ≠ p) : (⟨b, o, none⟩ : Addr) ≠ ⟨b, p, none⟩ := by
 intro e
 injection e
 contradiction
theorem cell_otherS {w : World} {a b : Addr} {v : Value} (h : a ≠ b) : (w.setCell a v).cell? b = w.cell? b := World.cell?_setCell_other _ _ _ _ h
theorem cell_sameS {w : World} {a : Addr} {u v : Value} (h : w.cell? a = some u) : (w.setCell a v).cell? a = some v := World.cell?_setCell_same _ _ _ h
theorem Arr.set {w : World} {B n : Nat} {f : Nat -> Bool} (h : Arr w B n f) (i : Nat) (v : Bool) (hi : i < n) : Arr (w.setCell ⟨B, i, none⟩ (.bool v)) B n (fun j => if j = i then v else f j) := by
 refine ⟨by simpa using h.lt, ?_, ?_⟩
 · intro j hj
   by_cases e : j = i
   · subst e
     rw [cell_sameS (h.c j hj)]
     simp
   · rw [cell_otherS (addrS (Ne.symm e)), h.c j hj]
     simp [e]
 · intro j hj
   rw [World.frozen?_setCell]
   exact h.z j hj
theorem Arr.setOther {w : World} {B n : Nat} {f : Nat -> Bool} (h : Arr w B n f) {a : Addr} (v : Value) (ha : a.block ≠ B) : Arr (w.setCell a v) B n f := by
 refine ⟨by simpa using h.lt, ?_, ?_⟩
 · intro j hj
   rw [cell_otherS (by intro e; rw [e] at ha; exact ha rfl)]
   exact h.c j hj
 · intro j hj
   rw [World.frozen?_setCell]
   exact h.z j hj
theorem Arr.below {w w' : World} {K B n : Nat} {f : Nat -> Bool} (h : Arr w B n f) (hb : Below K w w') (hk : B < K) : Arr w' B n f :=
 ⟨Nat.lt_of_lt_of_le h.lt hb.size, fun j hj => (hb.cell (p := ⟨B, j, none⟩) hk).trans (h.c j hj), fun j hj => (hb.frozen (p := ⟨B, j, none⟩) hk).trans (h.z j hj)⟩
theorem Arr.alloc {w : World} {B n : Nat} {f : Nat -> Bool} (h : Arr w B n f) (o : Obj) : Arr (w.alloc o) B n f :=
 h.below ((Below.refl w.heap.size w).alloc (Nat.le_refl _) o) h.lt
theorem Arr.drewN {w : World} {B n : Nat} {f : Nat -> Bool} (h : Arr w B n f) (k : Nat) : Arr (w.drewN k) B n f := ⟨h.lt, h.c, h.z⟩
theorem Arr.of_block {w : World} {B n : Nat} {f : Nat -> Bool} {C : Array Value} {t : TypeId} (hb : w.heap[B]? = some (.cells C t)) (hc : ∀ j, j < n -> C[j]? = some (.bool (f j))) : Arr w B n f := by
 refine ⟨?_, fun j hj => ?_, fun j hj => frozen_of_row _ _ _ _ _ hb⟩
 · rcases Nat.lt_or_ge B w.heap.size with h | h
   · exact h
   · rw [Array.getElem?_eq_none h] at hb; cases hb
 · rw [cell_of_row _ _ _ _ _ _ hb]
   exact hc j hj
def six (S : Nat -> Bool) : Array Value := #[.bool (S 0), .bool (S 1), .bool (S 2), .bool (S 3), .bool (S 4), .bool (S 5)]
theorem six_get (S : Nat -> Bool) : ∀ j, j < 6 -> (six S)[j]? = some (.bool (S j)) := by
 intro j hj
 obtain rfl | rfl | rfl | rfl | rfl | rfl := (by omega : j = 0 ∨ j = 1 ∨ j = 2 ∨ j = 3 ∨ j = 4 ∨ j = 5) <;> rfl
theorem arr_new (w : World) (S : Nat -> Bool) (t : TypeId) : Arr (w.alloc (.cells (six S) t)) w.heap.size 6 S := Arr.of_block (heap_alloc_new w _) (six_get S)
structure Gm (w : World) (gb : Nat) (G : Gph) (mk : Nat -> ByteArray) : Prop where
 lt : gb < w.heap.size
 n6 : G.n <= 6
 cn : w.cell? ⟨gb, 0, none⟩ = some (.int .i64 (G.n : Int))
 ce : ∀ i j, i < 6 -> j < 6 -> w.cell? ⟨gb, 1 + i * 6 + j, none⟩ = some (.bool (G.e i j))
 cm : ∀ i, i < 6 -> w.cell? ⟨gb, 37 + i, none⟩ = some (.string (mk i))
 ms : ∀ i, (mk i).size <= 1000
 mm : ∀ i c, i < 6 -> (G.m i c = true ↔ ∃ d ∈ (mk i).data.toList, d.toNat = c)
theorem Gm.below {w w' : World} {gb K : Nat} {G : Gph} {mk : Nat -> ByteArray} (h : Gm w gb G mk) (hb : Below K w w') (hk : gb < K) : Gm w' gb G mk :=
 ⟨Nat.lt_of_lt_of_le h.lt hb.size, h.n6, (hb.cell (p := ⟨gb, 0, none⟩) hk).trans h.cn, fun i j hi hj => (hb.cell (p := ⟨gb, 1 + i * 6 + j, none⟩) hk).trans (h.ce i j hi hj), fun i hi => (hb.cell (p := ⟨gb, 37 + i, none⟩) hk).trans (h.cm i hi), h.ms, h.mm⟩
theorem tlS (s : ByteArray) : tl s 0 = s.data.toList := by simp [tl]
theorem bears_is (gb i c : Nat) (G : Gph) (mk : Nat -> ByteArray) (w : World) (hi : i < 6) (HG : Hid (Gm w gb G mk)) :
   Calls Tryz.prog 78 #[.pointer (some ⟨gb, 0, none⟩), .int .i64 (i : Int), .int .u8 (c : Int)] w fun e w' => e = .returned (.bool (G.m i c)) ∧ ∃ n, w' = w.drewN n := by
 have hm := HG.out.cm i hi
 obtain ⟨s, hs⟩ : ∃ s, s = mk i := ⟨_, rfl⟩
 have hsz : s.size <= 1000 := by rw [hs]; exact HG.out.ms i
 rw [<- hs] at hm
 have HB : Hid (G.m i c = decide (findc c (tl s 0) < s.size)) := by
   show _ = _
   rw [Bool.eq_iff_iff, HG.out.mm i c hi, <- hs, decide_eq_true_eq, tlS]
   have := findc_lt c s.data.toList
   rw [<- this]
   have e : s.size = s.data.toList.length := by
     show s.data.size = _
     rw [Array.length_toList]
   rw [e]
 have k0 : (0 : Int) <= (i : Int) := by omega
 have k1 : (i : Int) < 6 := by omega
 clear hs
 go_enter Tryz.func78, Tryz.ntmps78
 go_wp2_with fail
 go_quiet ((go_at_call 59; exact Calls.quiet_of_same (upTo_0 s c _ (by omega))))
 go_wp2
 go_ret
 exact ⟨by rw [HB.out]; simp, _, rfl⟩
theorem below_setCellsT (b : Nat) : ∀ (vs : List Value) (o : Nat) (w : World), Below b w (w.setCells b o vs)
 | [], _, w => Below.refl _ _
 | v :: r, o, w => ((Below.refl b w).setCell (p := ⟨b, o, none⟩) (Nat.le_refl _) v).trans (below_setCellsT b r (o + 1) _)
theorem block_setCellsT (b : Nat) : ∀ (vs : List Value) (o : Nat) (w : World) (k : Nat), k ≠ b -> (w.setCells b o vs).heap[k]? = w.heap[k]?
 | [], _, w, _, _ => rfl
 | v :: r, o, w, k, h => (block_setCellsT b r (o + 1) _ k h).trans (Below.heap_setCell _ _ _ _ h)
theorem size_setCellsT (b : Nat) : ∀ (vs : List Value) (o : Nat) (w : World), (w.setCells b o vs).heap.size = w.heap.size
 | [], _, w => rfl
 | v :: r, o, w => (size_setCellsT b r (o + 1) _).trans (by simp)
theorem storeT {ops : Array Oper} {rest : List Oper} {op : Oper} {a : Act} {w : World} {Q : Exit -> Act -> World -> Prop} (T n : Nat) (hT : (Tryz.prog.info? T).map (·.size) = some n) (hgd : op.guard = none) (x y : Operand) (ho : op.op = .store T x y)
   (b : Nat) (cells : Array Value) (hx : a.eval x = .pointer (some ⟨b, 0, none⟩)) (hy : a.eval y = .agg cells)
   (ht : w.there b 0 n) (hi : cells.size = n) (h1 : cells.all (·.oneCell') = true)
   (h : ∀ w', Below b w w' -> w'.heap.size = w.heap.size -> (∀ k, k ≠ b -> w'.heap[k]? = w.heap[k]?) -> w'.rangeAt b 0 cells.toList -> wpList Tryz.prog ops Q rest (a.put op.dst undef) w') : wpList Tryz.prog ops Q (op :: rest) a w := by
 refine wpList_store_mid hgd T x y ho b 0 cells hx hy (by rw [hi]; exact ht) (by rw [hi]; exact hT) h1 ?_
 refine h _ (below_setCellsT b _ _ _) (size_setCellsT b _ _ _) (block_setCellsT b _ _ _) ?_
 exact World.rangeAt_setCells_same _ _ _ _ (by simpa [hi] using ht)
theorem loadT {ops : Array Oper} {rest : List Oper} {op : Oper} {a : Act} {w : World} {Q : Exit -> Act -> World -> Prop} (T n : Nat) (hT : (Tryz.prog.info? T).map (·.size) = some n) (hrow : ∃ d, Tryz.prog.underlying T = some d ∧ d.isRow = true) (hgd : op.guard = none) (x : Operand) (ho : op.op = .load T x)
   (b : Nat) (hx : a.eval x = .pointer (some ⟨b, 0, none⟩)) (cs : List Value) (hc : w.rangeAt b 0 cs) (hl : cs.length = n)
   (h : wpList Tryz.prog ops Q rest (a.put op.dst (.agg cs.toArray)) w) : wpList Tryz.prog ops Q (op :: rest) a w := by
 obtain ⟨d, hu, hd⟩ := hrow
 exact wpList_load_mid hgd T x ho b 0 hx cs d hc hu hd (by rw [hl]; exact hT) h
theorem resultT {fn : Func} {p T n : Nat} (hf : fn.results = #[.cell p T]) (hT : (Tryz.prog.info? T).map (·.size) = some n) (hrow : ∃ d, Tryz.prog.underlying T = some d ∧ d.isRow = true) (tmps : Array Value) (w : World) (b : Nat) (cs : List Value) (hp : tmps.getD p undef = .pointer (some ⟨b, 0, none⟩)) (hc : w.rangeAt b 0 cs) (hl : cs.length = n) :
   (results fn tmps).run Tryz.prog w = .ok (.agg cs.toArray) w := by
 obtain ⟨d, hu, hd⟩ := hrow
 have hp' : tmps[p]?.getD undef = .pointer (some ⟨b, 0, none⟩) := by simpa using hp
 simp [results, hf, hp', asAddr, run_loadVar_mid w b 0 T cs d hc hu hd (by rw [hl]; exact hT)]
theorem Tryz.size75 : (Tryz.prog.info? 75).map (·.size) = some 6 := by kernel_rfl
theorem Tryz.row75 : ∃ d, Tryz.prog.underlying 75 = some d ∧ d.isRow = true := ⟨_, Tryz.underlying75, rfl⟩
theorem Arr.there {w : World} {B n : Nat} {f : Nat -> Bool} (h : Arr w B n f) : w.there B 0 n := fun j hj => by
 rw [Nat.zero_add]
 exact ⟨by rw [h.c j hj]; rfl, h.z j hj⟩
def bools (n : Nat) (f : Nat -> Bool) : List Value := (List.range n).map fun k => .bool (f k)
theorem bools_len (n : Nat) (f : Nat -> Bool) : (bools n f).length = n := by simp [bools]
theorem bools_one (n : Nat) (f : Nat -> Bool) : (bools n f).toArray.all (·.oneCell') = true := by
 refine all_oneCell_toArray fun v hv => ?_
 simp only [bools, List.mem_map] at hv
 obtain ⟨k, _, rfl⟩ := hv
 rfl
theorem Arr.range {w : World} {B n : Nat} {f : Nat -> Bool} (h : Arr w B n f) : w.rangeAt B 0 (bools n f) := by
 intro j v hv
 have hj : j < n := by
   have := (List.getElem?_eq_some_iff.1 hv).1
   rw [bools_len] at this
   exact this
 rw [Nat.zero_add]
 simp only [bools, List.getElem?_map, List.getElem?_range hj, Option.map_some] at hv
 injection hv with hv
 rw [<- hv]
 exact h.c j hj
theorem bools_size (n : Nat) (f : Nat -> Bool) : (bools n f).toArray.size = n := by simp [bools]
theorem arr_at (w : World) (S : Nat -> Bool) (t : TypeId) (B : Nat) (h : w.heap.size = B) : Arr (w.alloc (.cells (six S) t)) B 6 S := by
 subst h
 exact arr_new w S t
theorem Arr.congr {w : World} {B n : Nat} {f g : Nat -> Bool} (h : Arr w B n f) (hfg : ∀ j, j < n -> f j = g j) : Arr w B n g :=
 ⟨h.lt, fun j hj => by rw [<- hfg j hj]; exact h.c j hj, h.z⟩
def upto (k : Nat) (f : Nat -> Bool) : Nat -> Bool := fun j => if j < k then f j else false
theorem Arr.next {w : World} {B n k : Nat} {f : Nat -> Bool} (h : Arr w B n (upto k f)) (hk : k < n) (v : Bool) (hv : v = f k) : Arr (w.setCell ⟨B, k, none⟩ (.bool v)) B n (upto (k + 1) f) := by
 refine (h.set k v hk).congr fun j hj => ?_
 unfold upto
 by_cases e : j = k
 · subst e; simp [hv]
 · rw [if_neg e]
   by_cases h1 : j < k
   · rw [if_pos h1, if_pos (by omega)]
   · rw [if_neg h1, if_neg (by omega)]
theorem below3 (w : World) (o p q : Obj) : Below w.heap.size w (((w.alloc o).alloc p).alloc q) := (((Below.refl _ _).alloc (Nat.le_refl _) _).alloc (by simp) _).alloc (by simp; omega) _
theorem upto_zero (f : Nat -> Bool) : upto 0 f = fun _ => false := by funext j; simp [upto]
theorem without_is (gb : Nat) (G : Gph) (mk : Nat -> ByteArray) (a : Nat -> Bool) (w : World) (HG : Hid (Gm w gb G mk)) :
   Calls Tryz.prog 52 #[.pointer (some ⟨gb, 0, none⟩), .agg (six a)] w fun e w' => e = .returned (.agg (six (upto G.n fun j => !(a j)))) ∧ Below w.heap.size w w' := by
 have hg6 := HG.out.n6
 have hgl := HG.out.lt
 go_enter Tryz.func52, Tryz.ntmps52
 go_wp2_with fail
 go_loopw [6] (fun q wr => ∃ k : Nat, k <= G.n ∧ q = .int .i64 k ∧ Below w.heap.size w wr ∧ Hid (Arr wr w.heap.size 6 a) ∧ Hid (Arr wr (w.heap.size + 1) 6 (fun _ => false)) ∧ Hid (Arr wr (w.heap.size + 1 + 1) 6 (upto k fun j => !(a j)))) (fun q _ => G.n - (intOf q).toNat)
 case atStart =>
   refine ⟨0, by omega, rfl, below3 w _ _ _, ((arr_new w a 75).alloc _).alloc _, (arr_at (w.alloc _) (fun _ => false) 75 _ (by simp)).alloc _, ?_⟩
   show Arr _ _ _ _
   rw [upto_zero]
   exact arr_at _ (fun _ => false) 75 _ (by simp)
 case round =>
   obtain ⟨k, hk, rfl, hbel, HA, HR, HS⟩ := hrel
   have hn := (HG.out.below hbel hgl).cn
   have e1 : w.heap.size ≠ w.heap.size + 1 + 1 := by omega
   have e2 : w.heap.size + 1 ≠ w.heap.size + 1 + 1 := by omega
   by_cases hlt : k < G.n
   · have ca := HA.out.c k (by omega)
     have cs := HS.out.c k (by omega)
     have zs := HS.out.z k (by omega)
     have k0 : (0 : Int) <= (k : Int) := by omega
     have k1 : (k : Int) < 6 := by omega
     go_wp2_with fail
     go_roundw
     case rel => exact ⟨k + 1, by omega, by go_num, hbel.setCell (by simp; omega) _, HA.out.setOther _ (Ne.symm e1), HR.out.setOther _ (Ne.symm e2), HS.out.next (by omega) _ rfl⟩
     case measure => simp [intOf]; omega
   · have hkn : k = G.n := by omega
     have HK : Hid (k = G.n) := hkn
     clear hkn
     go_wp2_with (first | (refine loadT 75 6 Tryz.size75 Tryz.row75 (by rfl) _ (by rfl) (w.heap.size + 1 + 1) (by rfl) _ HS.out.range (bools_len _ _) ?_) | (refine storeT 75 6 Tryz.size75 (by rfl) _ _ (by rfl) (w.heap.size + 1) _ (by rfl) (by rfl) HR.out.there (bools_size _ _) (bools_one _ _) ?_; intro w5 hb5 hz5 hk5 hr5))
     refine bodyPost_ret (v := .agg (bools 6 (upto k fun j => !(a j))).toArray) (resultT Tryz.results52 Tryz.size75 Tryz.row75 _ _ (w.heap.size + 1) _ rfl hr5 (by simp [bools_len])) rfl ⟨?_, hbel.trans (hb5.mono (by omega))⟩
     rw [HK.out]
     rfl
theorem below2S (w : World) (o p : Obj) : Below w.heap.size w ((w.alloc o).alloc p) := ((Below.refl _ _).alloc (Nat.le_refl _) _).alloc (by simp) _
theorem below4 (w : World) (o p q r : Obj) : Below w.heap.size w ((((w.alloc o).alloc p).alloc q).alloc r) := (below3 w o p q).alloc (by simp; omega) _
theorem both_is (a b : Nat -> Bool) (w : World) :
   Calls Tryz.prog 54 #[.agg (six a), .agg (six b)] w fun e w' => e = .returned (.agg (six fun j => a j && b j)) ∧ Below w.heap.size w w' := by
 go_enter Tryz.func54, Tryz.ntmps54
 go_wp2_with fail
 go_loopw [6] (fun q wr => ∃ k : Nat, k <= 6 ∧ q = .int .i64 k ∧ Below w.heap.size w wr ∧ Hid (Arr wr w.heap.size 6 a) ∧ Hid (Arr wr (w.heap.size + 1) 6 b) ∧ Hid (Arr wr (w.heap.size + 1 + 1) 6 (fun _ => false)) ∧ Hid (Arr wr (w.heap.size + 1 + 1 + 1) 6 (upto k fun j => a j && b j))) (fun q _ => 6 - (intOf q).toNat)
 case atStart =>
   refine ⟨0, by omega, rfl, below4 w _ _ _ _, (((arr_new w a 75).alloc _).alloc _).alloc _, ((arr_at (w.alloc _) b 75 _ (by simp)).alloc _).alloc _, (arr_at _ (fun _ => false) 75 _ (by simp)).alloc _, ?_⟩
   show Arr _ _ _ _
   rw [upto_zero]
   exact arr_at _ (fun _ => false) 75 _ (by simp)
 case round =>
   obtain ⟨k, hk, rfl, hbel, HA, HB, HR, HS⟩ := hrel
   have e1 : w.heap.size ≠ w.heap.size + 1 + 1 + 1 := by omega
   have e2 : w.heap.size + 1 ≠ w.heap.size + 1 + 1 + 1 := by omega
   have e3 : w.heap.size + 1 + 1 ≠ w.heap.size + 1 + 1 + 1 := by omega
   by_cases hlt : k < 6
   · have ca := HA.out.c k (by omega)
     have cb := HB.out.c k (by omega)
     have cs := HS.out.c k (by omega)
     have zs := HS.out.z k (by omega)
     have k0 : (0 : Int) <= (k : Int) := by omega
     have k1 : (k : Int) < 6 := by omega
     cases hak : a k with
     | true =>
       rw [hak] at ca
       have HK : Hid (a k = true) := hak
       clear hak
       go_wp2_with fail
       go_roundw
       case rel => exact ⟨k + 1, by omega, by go_num, hbel.setCell (by simp; omega) _, HA.out.setOther _ (Ne.symm e1), HB.out.setOther _ (Ne.symm e2), HR.out.setOther _ (Ne.symm e3), HS.out.next (by omega) _ (by rw [HK.out, Bool.true_and])⟩
       case measure => simp [intOf]; omega
     | false =>
       rw [hak] at ca
       have HK : Hid (a k = false) := hak
       clear hak
       go_wp2_with fail
       go_roundw
       case rel => exact ⟨k + 1, by omega, by go_num, hbel.setCell (by simp; omega) _, HA.out.setOther _ (Ne.symm e1), HB.out.setOther _ (Ne.symm e2), HR.out.setOther _ (Ne.symm e3), HS.out.next (by omega) _ (by rw [HK.out, Bool.false_and])⟩
       case measure => simp [intOf]; omega
   · obtain rfl : k = 6 := by omega
     go_wp2_with (first | (refine loadT 75 6 Tryz.size75 Tryz.row75 (by rfl) _ (by rfl) (w.heap.size + 1 + 1 + 1) (by rfl) _ HS.out.range (bools_len _ _) ?_) | (refine storeT 75 6 Tryz.size75 (by rfl) _ _ (by rfl) (w.heap.size + 1 + 1) _ (by rfl) (by rfl) HR.out.there (bools_size _ _) (bools_one _ _) ?_; intro w5 hb5 hz5 hk5 hr5))
     exact bodyPost_ret (v := .agg (bools 6 (upto 6 fun j => a j && b j)).toArray) (resultT Tryz.results54 Tryz.size75 Tryz.row75 _ _ (w.heap.size + 1 + 1) _ rfl hr5 (by simp [bools_len])) rfl ⟨rfl, hbel.trans (hb5.mono (by omega))⟩
theorem full_is (gb : Nat) (G : Gph) (mk : Nat -> ByteArray) (w : World) (HG : Hid (Gm w gb G mk)) :
   Calls Tryz.prog 80 #[.pointer (some ⟨gb, 0, none⟩)] w fun e w' => e = .returned (.agg (six (upto G.n fun _ => true))) ∧ Below w.heap.size w w' := by
 have hg6 := HG.out.n6
 have hgl := HG.out.lt
 go_enter Tryz.func80, Tryz.ntmps80
 go_wp2_with fail
 go_loopw [4] (fun q wr => ∃ k : Nat, k <= G.n ∧ q = .int .i64 k ∧ Below w.heap.size w wr ∧ Hid (Arr wr w.heap.size 6 (fun _ => false)) ∧ Hid (Arr wr (w.heap.size + 1) 6 (upto k fun _ => true))) (fun q _ => G.n - (intOf q).toNat)
 case atStart =>
   refine ⟨0, by omega, rfl, below2S w _ _, (arr_new w (fun _ => false) 75).alloc _, ?_⟩
   show Arr _ _ _ _
   rw [upto_zero]
   exact arr_at _ (fun _ => false) 75 _ (by simp)
 case round =>
   obtain ⟨k, hk, rfl, hbel, HR, HS⟩ := hrel
   have hn := (HG.out.below hbel hgl).cn
   have e1 : w.heap.size ≠ w.heap.size + 1 := by omega
   by_cases hlt : k < G.n
   · have cs := HS.out.c k (by omega)
     have zs := HS.out.z k (by omega)
     have k0 : (0 : Int) <= (k : Int) := by omega
     have k1 : (k : Int) < 6 := by omega
     go_wp2_with fail
     go_roundw
     case rel => exact ⟨k + 1, by omega, by go_num, hbel.setCell (by simp) _, HR.out.setOther _ (Ne.symm e1), HS.out.next (by omega) _ rfl⟩
     case measure => simp [intOf]; omega
   · have hkn : k = G.n := by omega
     have HK : Hid (k = G.n) := hkn
     clear hkn
     go_wp2_with (first | (refine loadT 75 6 Tryz.size75 Tryz.row75 (by rfl) _ (by rfl) (w.heap.size + 1) (by rfl) _ HS.out.range (bools_len _ _) ?_) | (refine storeT 75 6 Tryz.size75 (by rfl) _ _ (by rfl) w.heap.size _ (by rfl) (by rfl) HR.out.there (bools_size _ _) (bools_one _ _) ?_; intro w5 hb5 hz5 hk5 hr5))
     refine bodyPost_ret (v := .agg (bools 6 (upto k fun _ => true)).toArray) (resultT Tryz.results80 Tryz.size75 Tryz.row75 _ _ w.heap.size _ rfl hr5 (by simp [bools_len])) rfl ⟨?_, hbel.trans (hb5.mono (by omega))⟩
     rw [HK.out]
     rfl
theorem plain_is (gb c : Nat) (G : Gph) (mk : Nat -> ByteArray) (w : World) (HG : Hid (Gm w gb G mk)) :
   Calls Tryz.prog 55 #[.pointer (some ⟨gb, 0, none⟩), .int .u8 (c : Int)] w fun e w' => e = .returned (.agg (six (upto G.n fun j => (c == 84) || G.m j c))) ∧ Below w.heap.size w w' := by
 have hg6 := HG.out.n6
 have hgl := HG.out.lt
 obtain ⟨t, ht⟩ : ∃ t, ((c : Int) == 84) = t := ⟨_, rfl⟩
 have HT : Hid ((c == 84) = t) := by
   show _ = _
   rw [<- ht, Bool.eq_iff_iff, beq_iff_eq, beq_iff_eq]
   omega
 go_enter Tryz.func55, Tryz.ntmps55
 go_wp2_with fail
 go_loopw [6] (fun q wr => ∃ k : Nat, k <= G.n ∧ q = .int .i64 k ∧ Below w.heap.size w wr ∧ Hid (Arr wr w.heap.size 6 (fun _ => false)) ∧ Hid (Arr wr (w.heap.size + 1) 6 (upto k fun j => (c == 84) || G.m j c))) (fun q _ => G.n - (intOf q).toNat)
 case atStart =>
   refine ⟨0, by omega, rfl, below2S w _ _, (arr_new w (fun _ => false) 75).alloc _, ?_⟩
   show Arr _ _ _ _
   rw [upto_zero]
   exact arr_at _ (fun _ => false) 75 _ (by simp)
 case round =>
   obtain ⟨k, hk, rfl, hbel, HR, HS⟩ := hrel
   have HGr : Hid (Gm _ gb G mk) := HG.out.below hbel hgl
   have hn := HGr.out.cn
   have e1 : w.heap.size ≠ w.heap.size + 1 := by omega
   by_cases hlt : k < G.n
   · have cs := HS.out.c k (by omega)
     have zs := HS.out.z k (by omega)
     have k0 : (0 : Int) <= (k : Int) := by omega
     have k1 : (k : Int) < 6 := by omega
     cases t with
     | true =>
       go_wp2_with fail
       go_roundw
       case rel => exact ⟨k + 1, by omega, by go_num, hbel.setCell (by simp) _, HR.out.setOther _ (Ne.symm e1), HS.out.next (by omega) _ (by rw [HT.out, Bool.true_or])⟩
       case measure => simp [intOf]; omega
     | false =>
       go_wp2_with (go_at_call 78; refine (bears_is gb k c G mk _ (by omega) HGr).mono ?_; rintro e w1 ⟨rfl, m, rfl⟩)
       go_roundw
       case rel => exact ⟨k + 1, by omega, by go_num, (below_drewN hbel m).setCell (by simp) _, (HR.out.drewN m).setOther _ (Ne.symm e1), (HS.out.drewN m).next (by omega) _ (by rw [HT.out, Bool.false_or])⟩
       case measure => simp [intOf]; omega
   · have hkn : k = G.n := by omega
     have HK : Hid (k = G.n) := hkn
     clear hkn
     go_wp2_with (first | (refine loadT 75 6 Tryz.size75 Tryz.row75 (by rfl) _ (by rfl) (w.heap.size + 1) (by rfl) _ HS.out.range (bools_len _ _) ?_) | (refine storeT 75 6 Tryz.size75 (by rfl) _ _ (by rfl) w.heap.size _ (by rfl) (by rfl) HR.out.there (bools_size _ _) (bools_one _ _) ?_; intro w5 hb5 hz5 hk5 hr5))
     refine bodyPost_ret (v := .agg (bools 6 (upto k fun j => (c == 84) || G.m j c)).toArray) (resultT Tryz.results55 Tryz.size75 Tryz.row75 _ _ w.heap.size _ rfl hr5 (by simp [bools_len])) rfl ⟨?_, hbel.trans (hb5.mono (by omega))⟩
     rw [HK.out]
     rfl
structure Mat (w : World) (B : Nat) (M : Nat -> Nat -> Bool) : Prop where
 lt : B < w.heap.size
 c : ∀ i j, i < 6 -> j < 6 -> w.cell? ⟨B, i * 6 + j, none⟩ = some (.bool (M i j))
 z : ∀ o, o < 36 -> w.frozen? ⟨B, o, none⟩ = false
theorem Mat.set {w : World} {B : Nat} {M : Nat -> Nat -> Bool} (h : Mat w B M) (i j : Nat) (v : Bool) (hi : i < 6) (hj : j < 6) : Mat (w.setCell ⟨B, i * 6 + j, none⟩ (.bool v)) B (fun x y => if x = i ∧ y = j then v else M x y) := by
 refine ⟨by simpa using h.lt, ?_, ?_⟩
 · intro x y hx hy
   by_cases e : x = i ∧ y = j
   · obtain ⟨rfl, rfl⟩ := e
     rw [cell_sameS (h.c x y hx hy)]
     simp
   · rw [cell_otherS (addrS (by omega)), h.c x y hx hy, if_neg e]
 · intro o ho
   rw [World.frozen?_setCell]
   exact h.z o ho
theorem Mat.congr {w : World} {B : Nat} {M N : Nat -> Nat -> Bool} (h : Mat w B M) (hm : ∀ i j, i < 6 -> j < 6 -> M i j = N i j) : Mat w B N :=
 ⟨h.lt, fun i j hi hj => by rw [<- hm i j hi hj]; exact h.c i j hi hj, h.z⟩
theorem Mat.below {w w' : World} {K B : Nat} {M : Nat -> Nat -> Bool} (h : Mat w B M) (hb : Below K w w') (hk : B < K) : Mat w' B M :=
 ⟨Nat.lt_of_lt_of_le h.lt hb.size, fun i j hi hj => (hb.cell (p := ⟨B, i * 6 + j, none⟩) hk).trans (h.c i j hi hj), fun o ho => (hb.frozen (p := ⟨B, o, none⟩) hk).trans (h.z o ho)⟩
theorem Mat.alloc {w : World} {B : Nat} {M : Nat -> Nat -> Bool} (h : Mat w B M) (o : Obj) : Mat (w.alloc o) B M :=
 h.below ((Below.refl w.heap.size w).alloc (Nat.le_refl _) o) h.lt
theorem Mat.drewN {w : World} {B : Nat} {M : Nat -> Nat -> Bool} (h : Mat w B M) (k : Nat) : Mat (w.drewN k) B M := ⟨h.lt, h.c, h.z⟩
theorem Mat.drew {w : World} {B : Nat} {M : Nat -> Nat -> Bool} (h : Mat w B M) : Mat w.drew B M := ⟨h.lt, h.c, h.z⟩
theorem Arr.drew {w : World} {B n : Nat} {f : Nat -> Bool} (h : Arr w B n f) : Arr w.drew B n f := ⟨h.lt, h.c, h.z⟩
theorem Mat.setOther {w : World} {B : Nat} {M : Nat -> Nat -> Bool} (h : Mat w B M) {a : Addr} (v : Value) (ha : a.block ≠ B) : Mat (w.setCell a v) B M := by
 refine ⟨by simpa using h.lt, ?_, ?_⟩
 · intro i j hi hj
   rw [cell_otherS (by intro e; rw [e] at ha; exact ha rfl)]
   exact h.c i j hi hj
 · intro j hj
   rw [World.frozen?_setCell]
   exact h.z j hj
theorem Mat.there {w : World} {B : Nat} {M : Nat -> Nat -> Bool} (h : Mat w B M) : w.there B 0 36 := fun j hj => by
 rw [Nat.zero_add]
 have := h.c (j / 6) (j % 6) (by omega) (by omega)
 rw [show j / 6 * 6 + j % 6 = j from by omega] at this
 exact ⟨by rw [this]; rfl, h.z j hj⟩
def flat6 (M : Nat -> Nat -> Bool) : Nat -> Bool := fun k => M (k / 6) (k % 6)
theorem Mat.range {w : World} {B : Nat} {M : Nat -> Nat -> Bool} (h : Mat w B M) : w.rangeAt B 0 (bools 36 (flat6 M)) := by
 intro j v hv
 have hj : j < 36 := by
   have := (List.getElem?_eq_some_iff.1 hv).1
   rw [bools_len] at this
   exact this
 rw [Nat.zero_add]
 simp only [bools, List.getElem?_map, List.getElem?_range hj, Option.map_some] at hv
 injection hv with hv
 rw [<- hv]
 have := h.c (j / 6) (j % 6) (by omega) (by omega)
 rw [show j / 6 * 6 + j % 6 = j from by omega] at this
 exact this
theorem mat_of_range {w : World} {B : Nat} {M : Nat -> Nat -> Bool} (hlt : B < w.heap.size) (h : w.rangeAt B 0 (bools 36 (flat6 M))) (hz : ∀ o, o < 36 -> w.frozen? ⟨B, o, none⟩ = false) : Mat w B M := by
 refine ⟨hlt, fun i j hi hj => ?_, hz⟩
 have hl : i * 6 + j < 36 := by omega
 have := h (i * 6 + j) (.bool (M i j)) (by
   simp only [bools, List.getElem?_map, List.getElem?_range hl, Option.map_some, flat6]
   rw [show (i * 6 + j) / 6 = i from by omega, show (i * 6 + j) % 6 = j from by omega])
 rw [Nat.zero_add] at this
 exact this
theorem arr_of_range {w : World} {B n : Nat} {f : Nat -> Bool} (hlt : B < w.heap.size) (h : w.rangeAt B 0 (bools n f)) (hz : ∀ o, o < n -> w.frozen? ⟨B, o, none⟩ = false) : Arr w B n f := by
 refine ⟨hlt, fun j hj => ?_, hz⟩
 have := h j (.bool (f j)) (by simp only [bools, List.getElem?_map, List.getElem?_range hj, Option.map_some])
 rw [Nat.zero_add] at this
 exact this
theorem zero36_is : (#[.bool false, .bool false, .bool false, .bool false, .bool false, .bool false, .bool false, .bool false, .bool false, .bool false, .bool false, .bool false, .bool false, .bool false, .bool false, .bool false, .bool false, .bool false, .bool false, .bool false, .bool false, .bool false, .bool false, .bool false, .bool false, .bool false, .bool false, .bool false, .bool false, .bool false, .bool false, .bool false, .bool false, .bool false, .bool false, .bool false] : Array Value) = Array.replicate 36 (.bool false) := rfl
theorem mat_new (w : World) (t B : Nat) (hB : w.heap.size = B) : Mat (w.alloc (.cells #[.bool false, .bool false, .bool false, .bool false, .bool false, .bool false, .bool false, .bool false, .bool false, .bool false, .bool false, .bool false, .bool false, .bool false, .bool false, .bool false, .bool false, .bool false, .bool false, .bool false, .bool false, .bool false, .bool false, .bool false, .bool false, .bool false, .bool false, .bool false, .bool false, .bool false, .bool false, .bool false, .bool false, .bool false, .bool false, .bool false] t)) B (fun _ _ => false) := by
 subst hB
 rw [zero36_is]
 have hb := heap_alloc_new w (.cells (Array.replicate 36 (.bool false)) t)
 refine ⟨by simp, fun i j hi hj => ?_, fun o _ => frozen_of_row _ _ _ _ _ hb⟩
 rw [cell_of_row _ _ _ _ _ _ hb, Array.getElem?_replicate, if_pos (by omega)]
theorem fw_out {G : Gph} (ok : G.ok) {S : Nat -> Bool} : ∀ k i j, (G.n <= i ∨ G.n <= j) -> fw G.e S k i j = false := by
 intro k
 induction k with
 | zero =>
   intro i j h
   have : G.e i j = false := by
     rw [Bool.eq_false_iff]
     intro he
     have := ok i j he
     omega
   simp [fw, this]
 | succ k ih =>
   intro i j h
   rw [fw, ih i j h]
   rcases h with h | h
   · rw [ih i k (.inl h)]; rfl
   · rw [ih k j (.inr h)]; simp
theorem fw_col (e : Nat -> Nat -> Bool) (S : Nat -> Bool) (k i : Nat) : fw e S (k + 1) i k = fw e S k i k := by
 rw [fw]; cases fw e S k i k <;> simp
theorem fw_row (e : Nat -> Nat -> Bool) (S : Nat -> Bool) (k j : Nat) : fw e S (k + 1) k j = fw e S k k j := by
 rw [fw]; cases fw e S k k j <;> simp
def half (done todo : Nat -> Nat -> Bool) (k l : Nat) : Nat -> Nat -> Bool := fun i j => if i < k ∨ (i = k ∧ j < l) then done i j else todo i j
theorem half_step {done todo : Nat -> Nat -> Bool} {k l : Nat} : (fun x y => if x = k ∧ y = l then done k l else half done todo k l x y) = half done todo k (l + 1) := by
 funext x y
 unfold half
 by_cases e : x = k ∧ y = l
 · obtain ⟨rfl, rfl⟩ := e
   rw [if_pos ⟨rfl, rfl⟩, if_pos (by omega)]
 · rw [if_neg e]
   by_cases h : x < k ∨ (x = k ∧ y < l)
   · rw [if_pos h, if_pos (by omega)]
   · rw [if_neg h, if_neg (by omega)]
theorem half_row {done todo : Nat -> Nat -> Bool} {k l n : Nat} (hl : n <= l) (h : ∀ j, n <= j -> done k j = todo k j) : ∀ i j, half done todo k l i j = half done todo (k + 1) 0 i j := by
 intro i j
 unfold half
 by_cases h1 : i < k
 · rw [if_pos (.inl h1), if_pos (by omega)]
 · by_cases h2 : i = k
   · subst h2
     by_cases h3 : j < l
     · rw [if_pos (by omega), if_pos (by omega)]
     · rw [if_neg (by omega), if_pos (by omega)]
       exact (h j (by omega)).symm
   · rw [if_neg (by omega), if_neg (by omega)]
theorem half_all {done todo : Nat -> Nat -> Bool} {k n : Nat} (hk : n <= k) (h : ∀ i j, n <= i -> done i j = todo i j) : ∀ i j, half done todo k 0 i j = done i j := by
 intro i j
 unfold half
 by_cases h1 : i < k
 · rw [if_pos (.inl h1)]
 · rw [if_neg (by omega)]
   exact (h i j (by omega)).symm
theorem half_none {done todo : Nat -> Nat -> Bool} : ∀ i j, half done todo 0 0 i j = todo i j := by
 intro i j
 unfold half
 rw [if_neg (by omega)]
theorem Tryz.size77 : (Tryz.prog.info? 77).map (·.size) = some 36 := by kernel_rfl
theorem Tryz.row77 : ∃ d, Tryz.prog.underlying 77 = some d ∧ d.isRow = true := ⟨_, Tryz.underlying77, rfl⟩
theorem fw_zero_no {e : Nat -> Nat -> Bool} {S : Nat -> Bool} {k l : Nat} (h : S k = false) : fw e S 0 k l = false := by simp [fw, h]
theorem fw_zero_yes {e : Nat -> Nat -> Bool} {S : Nat -> Bool} {k l : Nat} (h : S k = true) : fw e S 0 k l = e k l := by simp [fw, h]
theorem mat_step {w : World} {B : Nat} {done todo : Nat -> Nat -> Bool} {k l : Nat} (h : Mat w B (half done todo k l)) (hk : k < 6) (hl : l < 6) {v : Bool} (hv : v = done k l) : Mat (w.setCell ⟨B, k * 6 + l, none⟩ (.bool v)) B (half done todo k (l + 1)) := by
 rw [<- half_step, <- hv]
 exact h.set k l v hk hl
theorem half_here {done todo : Nat -> Nat -> Bool} {k l : Nat} : half done todo k l k l = todo k l := by
 unfold half
 rw [if_neg (by omega)]
theorem half_same {done todo : Nat -> Nat -> Bool} {k l i j : Nat} (h : done i j = todo i j) : half done todo k l i j = todo i j := by
 unfold half
 split
 · exact h
 · rfl
theorem web_is (gb : Nat) (G : Gph) (ok : G.ok) (mk : Nat -> ByteArray) (S : Nat -> Bool) (w : World) (HG : Hid (Gm w gb G mk)) :
   Calls Tryz.prog 110 #[.pointer (some ⟨gb, 0, none⟩), .agg (six S)] w fun e w' => e = .returned (.agg (bools 36 (flat6 (fw G.e S G.n))).toArray) ∧ Below w.heap.size w w' := by
 have hg6 := HG.out.n6
 have hgl := HG.out.lt
 have HOK : Hid G.ok := ok
 clear ok
 have e1 : w.heap.size ≠ w.heap.size + 1 + 1 := by omega
 have e2 : w.heap.size + 1 ≠ w.heap.size + 1 + 1 := by omega
 have e3 : gb ≠ w.heap.size + 1 + 1 := by omega
 go_enter Tryz.func110, Tryz.ntmps110
 go_wp2_with fail
 go_loopw [6] (fun q wr => ∃ k : Nat, k <= G.n ∧ q = .int .i64 k ∧ Below w.heap.size w wr ∧ Hid (Arr wr w.heap.size 6 S) ∧ Hid (Mat wr (w.heap.size + 1) (fun _ _ => false)) ∧ Hid (Mat wr (w.heap.size + 1 + 1) (half (fw G.e S 0) (fun _ _ => false) k 0))) (fun q _ => G.n - (intOf q).toNat)
 case atStart =>
   refine ⟨0, by omega, rfl, below3 w _ _ _, ((arr_new w S 75).alloc _).alloc _, (mat_new (w.alloc _) 77 _ (by simp)).alloc _, ?_⟩
   exact (mat_new _ 77 _ (by simp)).congr fun i j _ _ => (half_none (todo := fun _ _ => false) i j).symm
 case round =>
   obtain ⟨k, hk, rfl, hbel, HA, HR, HM⟩ := hrel
   have hn := (HG.out.below hbel hgl).cn
   by_cases hlt : k < G.n
   · go_wp2_with fail
     clear hn
     go_loopw [7] (fun q wr => ∃ l : Nat, l <= G.n ∧ q = .int .i64 l ∧ Below w.heap.size w wr ∧ Hid (Arr wr w.heap.size 6 S) ∧ Hid (Mat wr (w.heap.size + 1) (fun _ _ => false)) ∧ Hid (Mat wr (w.heap.size + 1 + 1) (half (fw G.e S 0) (fun _ _ => false) k l))) (fun q _ => G.n - (intOf q).toNat)
     case atStart => exact ⟨0, by omega, rfl, hbel, HA, HR, HM⟩
     case round =>
       clear hbel HA HR HM
       obtain ⟨l, hl, rfl, hbel, HA, HR, HM⟩ := hrel
       have HGr : Hid (Gm _ gb G mk) := HG.out.below hbel hgl
       have hn := HGr.out.cn
       by_cases hll : l < G.n
       · have ca := HA.out.c k (by omega)
         have ce := HGr.out.ce k l (by omega) (by omega)
         have cm := HM.out.c k l (by omega) (by omega)
         have zm := HM.out.z (k * 6 + l) (by omega)
         have k0 : (0 : Int) <= (k : Int) := by omega
         have k1 : (k : Int) < 6 := by omega
         have l0 : (0 : Int) <= (l : Int) := by omega
         have l1 : (l : Int) < 6 := by omega
         cases hS : S k with
         | true =>
           rw [hS] at ca
           have HS : Hid (S k = true) := hS
           clear hS
           go_wp2_with fail
           go_region
           all_goals
             go_wp2
             go_roundw
             case rel => exact ⟨l + 1, by omega, by go_num, (hbel.setCell (by simp; omega) _).drew, (HA.out.setOther _ (Ne.symm e1)).drew, (HR.out.setOther _ (Ne.symm e2)).drew, (mat_step HM.out (by omega) (by omega) (fw_zero_yes HS.out).symm).drew⟩
             case measure => simp [intOf]; omega
         | false =>
           rw [hS] at ca
           have HS : Hid (S k = false) := hS
           clear hS
           go_wp2_with fail
           go_region
           all_goals
             go_wp2
             go_roundw
             case rel => exact ⟨l + 1, by omega, by go_num, (hbel.setCell (by simp; omega) _).drew, (HA.out.setOther _ (Ne.symm e1)).drew, (HR.out.setOther _ (Ne.symm e2)).drew, (mat_step HM.out (by omega) (by omega) (fw_zero_no HS.out).symm).drew⟩
             case measure => simp [intOf]; omega
       · go_wp2_with fail
         go_roundw
         case rel => exact ⟨k + 1, by omega, by go_num, hbel, HA, HR, HM.out.congr fun i j _ _ => half_row (n := G.n) (by omega) (fun j hj => fw_out HOK.out 0 k j (.inr hj)) i j⟩
         case measure => simp [intOf]; omega
   · have HM0 : Hid (Mat _ (w.heap.size + 1 + 1) (fw G.e S 0)) := HM.out.congr fun i j _ _ => half_all (n := G.n) (by omega) (fun i j hi => fw_out HOK.out 0 i j (.inl hi)) i j
     clear HM
     go_wp2_with fail
     clear hn HA
     go_loopw [8] (fun q wr => ∃ c : Nat, c <= G.n ∧ q = .int .i64 c ∧ Below w.heap.size w wr ∧ Hid (Mat wr (w.heap.size + 1) (fun _ _ => false)) ∧ Hid (Mat wr (w.heap.size + 1 + 1) (fw G.e S c))) (fun q _ => G.n - (intOf q).toNat)
     case atStart => exact ⟨0, by omega, rfl, hbel, HR, HM0⟩
     case round =>
       clear hbel HR HM0
       obtain ⟨c, hc, rfl, hbel, HR, HM⟩ := hrel
       have hn := (HG.out.below hbel hgl).cn
       by_cases hcl : c < G.n
       · go_wp2_with fail
         clear hn
         go_loopw [9] (fun q wr => ∃ i : Nat, i <= G.n ∧ q = .int .i64 i ∧ Below w.heap.size w wr ∧ Hid (Mat wr (w.heap.size + 1) (fun _ _ => false)) ∧ Hid (Mat wr (w.heap.size + 1 + 1) (half (fw G.e S (c + 1)) (fw G.e S c) i 0))) (fun q _ => G.n - (intOf q).toNat)
         case atStart => exact ⟨0, by omega, rfl, hbel, HR, HM.out.congr fun i j _ _ => (half_none i j).symm⟩
         case round =>
           clear hbel HR HM
           obtain ⟨i, hi, rfl, hbel, HR, HM⟩ := hrel
           have hn := (HG.out.below hbel hgl).cn
           by_cases hil : i < G.n
           · go_wp2_with fail
             clear hn
             go_loopw [10] (fun q wr => ∃ j : Nat, j <= G.n ∧ q = .int .i64 j ∧ Below w.heap.size w wr ∧ Hid (Mat wr (w.heap.size + 1) (fun _ _ => false)) ∧ Hid (Mat wr (w.heap.size + 1 + 1) (half (fw G.e S (c + 1)) (fw G.e S c) i j))) (fun q _ => G.n - (intOf q).toNat)
             case atStart => exact ⟨0, by omega, rfl, hbel, HR, HM⟩
             case round =>
               clear hbel HR HM
               obtain ⟨j, hj, rfl, hbel, HR, HM⟩ := hrel
               have hn := (HG.out.below hbel hgl).cn
               by_cases hjl : j < G.n
               · have cij := HM.out.c i j (by omega) (by omega)
                 have cic := HM.out.c i c (by omega) (by omega)
                 have ccj := HM.out.c c j (by omega) (by omega)
                 rw [half_here] at cij
                 rw [half_same (fw_col G.e S c i)] at cic
                 rw [half_same (fw_row G.e S c j)] at ccj
                 have zm := HM.out.z (i * 6 + j) (by omega)
                 have i0 : (0 : Int) <= (i : Int) := by omega
                 have i1 : (i : Int) < 6 := by omega
                 have j0 : (0 : Int) <= (j : Int) := by omega
                 have j1 : (j : Int) < 6 := by omega
                 have c0 : (0 : Int) <= (c : Int) := by omega
                 have c1 : (c : Int) < 6 := by omega
                 obtain ⟨x, hx⟩ : ∃ x, x = fw G.e S c i j := ⟨_, rfl⟩
                 obtain ⟨y, hy⟩ : ∃ y, y = fw G.e S c i c := ⟨_, rfl⟩
                 obtain ⟨z, hz⟩ : ∃ z, z = fw G.e S c c j := ⟨_, rfl⟩
                 have HV : Hid (fw G.e S (c + 1) i j = (x || (y && z))) := by show _ = _; rw [fw, <- hx, <- hy, <- hz]
                 rw [<- hx] at cij
                 rw [<- hy] at cic
                 rw [<- hz] at ccj
                 clear hx hy hz
                 cases x with
                 | true =>
                   go_wp2_with fail
                   go_region
                   all_goals
                     go_wp2
                     go_roundw
                     case rel => exact ⟨j + 1, by omega, by go_num, (hbel.setCell (by simp; omega) _).drew, (HR.out.setOther _ (Ne.symm e2)).drew, (mat_step HM.out (by omega) (by omega) (by rw [HV.out]; rfl)).drew⟩
                     case measure => simp [intOf]; omega
                 | false =>
                   cases y with
                   | true =>
                     go_wp2_with fail
                     go_region
                     all_goals
                       go_wp2
                       go_roundw
                       case rel => exact ⟨j + 1, by omega, by go_num, (hbel.setCell (by simp; omega) _).drew, (HR.out.setOther _ (Ne.symm e2)).drew, (mat_step HM.out (by omega) (by omega) (by rw [HV.out]; simp)).drew⟩
                       case measure => simp [intOf]; omega
                   | false =>
                     go_wp2_with fail
                     go_region
                     all_goals
                       go_wp2
                       go_roundw
                       case rel => exact ⟨j + 1, by omega, by go_num, (hbel.setCell (by simp; omega) _).drew, (HR.out.setOther _ (Ne.symm e2)).drew, (mat_step HM.out (by omega) (by omega) (by rw [HV.out]; rfl)).drew⟩
                       case measure => simp [intOf]; omega
               · go_wp2_with fail
                 go_roundw
                 case rel => exact ⟨i + 1, by omega, by go_num, hbel, HR, HM.out.congr fun a b _ _ => half_row (n := G.n) (by omega) (fun b hb => by rw [fw_out HOK.out (c + 1) i b (.inr hb), fw_out HOK.out c i b (.inr hb)]) a b⟩
                 case measure => simp [intOf]; omega
           · go_wp2_with fail
             go_roundw
             case rel => exact ⟨c + 1, by omega, by go_num, hbel, HR, HM.out.congr fun a b _ _ => half_all (n := G.n) (by omega) (fun a b ha => by rw [fw_out HOK.out (c + 1) a b (.inl ha), fw_out HOK.out c a b (.inl ha)]) a b⟩
             case measure => simp [intOf]; omega
       · have hcn : c = G.n := by omega
         have HK : Hid (c = G.n) := hcn
         clear hcn
         go_wp2_with (first | (refine loadT 77 36 Tryz.size77 Tryz.row77 (by rfl) _ (by rfl) (w.heap.size + 1 + 1) (by rfl) _ HM.out.range (bools_len _ _) ?_) | (refine storeT 77 36 Tryz.size77 (by rfl) _ _ (by rfl) (w.heap.size + 1) _ (by rfl) (by rfl) HR.out.there (bools_size _ _) (bools_one _ _) ?_; intro w5 hb5 hz5 hk5 hr5))
         refine bodyPost_ret (v := .agg (bools 36 (flat6 (fw G.e S c))).toArray) (resultT Tryz.results110 Tryz.size77 Tryz.row77 _ _ (w.heap.size + 1) _ rfl hr5 (by simp [bools_len])) rfl ⟨?_, hbel.trans (hb5.mono (by omega))⟩
         rw [HK.out]
def anyU (p : Nat -> Bool) (n : Nat) : Bool := (List.range n).any p
theorem anyU_zero (p : Nat -> Bool) : anyU p 0 = false := rfl
theorem anyU_succ (p : Nat -> Bool) (n : Nat) : anyU p (n + 1) = (anyU p n || p n) := by
 simp [anyU, List.range_succ]
theorem anyU_anyN (G : Gph) (p : Nat -> Bool) : anyU p G.n = anyN G p := rfl
def meets (G : Gph) (M : Nat -> Nat -> Bool) (S : Nat -> Bool) (c f d : Nat) : Bool := S d && G.m d f && M c d && M d c
def allM (G : Gph) (M : Nat -> Nat -> Bool) (S : Nat -> Bool) (c : Nat) (l : List UInt8) : Bool := (l.map (·.toNat)).all fun f => anyU (meets G M S c f) G.n
theorem allM_nil (G : Gph) (M : Nat -> Nat -> Bool) (S : Nat -> Bool) (c : Nat) {s : ByteArray} {k : Nat} (h : s.size <= k) : allM G M S c (tl s k) = true := by
 rw [tl_nil s k h]; rfl
theorem allM_cons (G : Gph) (M : Nat -> Nat -> Bool) (S : Nat -> Bool) (c : Nat) {s : ByteArray} {k : Nat} (h : k < s.size) : allM G M S c (tl s k) = (anyU (meets G M S c s[k].toNat) G.n && allM G M S c (tl s (k + 1))) := by
 rw [tl_cons s k h]; rfl
theorem mat_box (w : World) (M : Nat -> Nat -> Bool) (t : TypeId) : Mat (w.alloc (.cells (bools 36 (flat6 M)).toArray t)) w.heap.size M := by
 have hb := heap_alloc_new w (.cells (bools 36 (flat6 M)).toArray t)
 refine ⟨by simp, fun i j hi hj => ?_, fun o _ => frozen_of_row _ _ _ _ _ hb⟩
 rw [cell_of_row _ _ _ _ _ _ hb]
 have hl : i * 6 + j < 36 := by omega
 simp only [bools, List.getElem?_toArray, List.getElem?_map, List.getElem?_range hl, Option.map_some, flat6]
 rw [show (i * 6 + j) / 6 = i from by omega, show (i * 6 + j) % 6 = j from by omega]
theorem round_is (gb c : Nat) (G : Gph) (mk : Nat -> ByteArray) (M : Nat -> Nat -> Bool) (S : Nat -> Bool) (f : ByteArray) (w : World) (hc : c < 6) (hf : f.size <= 1000) (HG : Hid (Gm w gb G mk)) :
   Calls Tryz.prog 111 #[.pointer (some ⟨gb, 0, none⟩), .agg (bools 36 (flat6 M)).toArray, .agg (six S), .int .i64 (c : Int), .string f] w fun e w' => e = .returned (.bool (S c && M c c && allM G M S c (tl f 0))) ∧ Below w.heap.size w w' := by
 have hg6 := HG.out.n6
 have hgl := HG.out.lt
 have HB0 := mat_box w M 77
 obtain ⟨C, hC⟩ : ∃ C, C = (bools 36 (flat6 M)).toArray := ⟨_, rfl⟩
 rw [<- hC]
 rw [<- hC] at HB0
 clear hC
 have HB : Hid (Mat (w.alloc (.cells C 77)) w.heap.size M) := HB0
 clear HB0
 have HA0 : Hid (Arr ((w.alloc (.cells C 77)).alloc (.cells (six S) 75)) (w.heap.size + 1) 6 S) := arr_at _ S 75 _ (by simp)
 have HM0 : Hid (Mat ((w.alloc (.cells C 77)).alloc (.cells (six S) 75)) w.heap.size M) := HB.out.alloc _
 clear HB
 have hb2 := below2S w (.cells C 77) (.cells (six S) 75)
 have c0 : (0 : Int) <= (c : Int) := by omega
 have c1 : (c : Int) < 6 := by omega
 have ca := HA0.out.c c hc
 have cm := HM0.out.c c c hc hc
 obtain ⟨x, hx⟩ : ∃ x, x = S c := ⟨_, rfl⟩
 obtain ⟨y, hy⟩ : ∃ y, y = M c c := ⟨_, rfl⟩
 rw [<- hx] at ca
 rw [<- hy] at cm
 rw [<- hx, <- hy]
 clear hx hy
 go_enter Tryz.func111, Tryz.ntmps111
 cases x with
 | false =>
   go_wp2_with fail
   go_ret
   exact ⟨rfl, hb2⟩
 | true =>
   cases y with
   | false =>
     go_wp2_with fail
     go_ret
     exact ⟨rfl, hb2⟩
   | true =>
     go_wp2_with fail
     clear ca cm
     go_loopw [11] (fun q wr => ∃ k : Nat, k <= f.size ∧ q = .int .i64 k ∧ Below w.heap.size w wr ∧ Hid (Mat wr w.heap.size M) ∧ Hid (Arr wr (w.heap.size + 1) 6 S) ∧ Hid (allM G M S c (tl f k) = allM G M S c (tl f 0))) (fun q _ => f.size - (intOf q).toNat)
     case atStart => exact ⟨0, by omega, rfl, hb2, HM0, HA0, rfl⟩
     case round =>
       clear HM0 HA0 hb2
       obtain ⟨k, hk, rfl, hbel, HM, HA, HF⟩ := hrel
       by_cases hlt : k < f.size
       · go_wp2_with fail
         go_loopw [12, 13] (fun t q wr => ∃ (d : Nat) (b : Bool), d <= G.n ∧ t = .bool b ∧ q = .int .i64 d ∧ Below w.heap.size w wr ∧ Hid (Mat wr w.heap.size M) ∧ Hid (Arr wr (w.heap.size + 1) 6 S) ∧ Hid (anyU (meets G M S c f[k].toNat) d = b)) (fun _ q _ => G.n - (intOf q).toNat)
         case atStart => exact ⟨0, false, by omega, rfl, rfl, hbel, HM, HA, rfl⟩
         case round =>
           clear hbel HM HA
           obtain ⟨d, b, hd, rfl, rfl, hbel, HM, HA, HD⟩ := hrel
           have HGr : Hid (Gm _ gb G mk) := HG.out.below hbel hgl
           have hn := HGr.out.cn
           by_cases hdl : d < G.n
           · have ca := HA.out.c d (by omega)
             have cm := HM.out.c c d (by omega) (by omega)
             have cn := HM.out.c d c (by omega) (by omega)
             have d0 : (0 : Int) <= (d : Int) := by omega
             have d1 : (d : Int) < 6 := by omega
             have HS : Hid (anyU (meets G M S c f[k].toNat) (d + 1) = (b || (S d && G.m d f[k].toNat && M c d && M d c))) := by
               show _ = _
               rw [anyU_succ, HD.out]; rfl
             obtain ⟨x, hx⟩ : ∃ x, x = S d := ⟨_, rfl⟩
             obtain ⟨y, hy⟩ : ∃ y, y = M c d := ⟨_, rfl⟩
             obtain ⟨z, hz⟩ : ∃ z, z = M d c := ⟨_, rfl⟩
             obtain ⟨m, hm⟩ : ∃ m, m = G.m d f[k].toNat := ⟨_, rfl⟩
             rw [<- hx] at ca
             rw [<- hy] at cm
             rw [<- hz] at cn
             rw [<- hx, <- hy, <- hz, <- hm] at HS
             have HC : ∀ w', Hid (Gm w' gb G mk) -> Calls Tryz.prog 78 #[.pointer (some ⟨gb, 0, none⟩), .int .i64 (d : Int), .int .u8 (f[k].toNat : Int)] w' fun e w'' => e = .returned (.bool m) ∧ ∃ n, w'' = w'.drewN n := by
               intro w' h
               rw [hm]
               exact bears_is gb d f[k].toNat G mk w' (by omega) h
             clear hx hy hz hm
             cases b with
             | true =>
               go_wp2_with fail
               go_roundw
               case rel => exact ⟨d + 1, true, by omega, rfl, by go_num, hbel, HM, HA, by show _ = _; rw [HS.out]; rfl⟩
               case measure => simp [intOf]; omega
             | false =>
               cases x with
               | false =>
                 go_wp2_with fail
                 go_roundw
                 case rel => exact ⟨d + 1, false, by omega, rfl, by go_num, hbel, HM, HA, by show _ = _; rw [HS.out]; rfl⟩
                 case measure => simp [intOf]; omega
               | true =>
                 cases m with
                 | false =>
                   go_wp2_with (go_at_call 78; refine (HC _ HGr).mono ?_; rintro e w1 ⟨rfl, n, rfl⟩)
                   go_roundw
                   case rel => exact ⟨d + 1, false, by omega, rfl, by go_num, below_drewN hbel n, HM.out.drewN n, HA.out.drewN n, by show _ = _; rw [HS.out]; rfl⟩
                   case measure => simp [intOf]; omega
                 | true =>
                   cases y with
                   | false =>
                     go_wp2_with (go_at_call 78; refine (HC _ HGr).mono ?_; rintro e w1 ⟨rfl, n, rfl⟩)
                     go_roundw
                     case rel => exact ⟨d + 1, false, by omega, rfl, by go_num, below_drewN hbel n, HM.out.drewN n, HA.out.drewN n, by show _ = _; rw [HS.out]; rfl⟩
                     case measure => simp [intOf]; omega
                   | true =>
                     go_wp2_with (go_at_call 78; refine (HC _ HGr).mono ?_; rintro e w1 ⟨rfl, n, rfl⟩)
                     go_roundw
                     case rel => exact ⟨d + 1, z, by omega, rfl, by go_num, below_drewN hbel n, HM.out.drewN n, HA.out.drewN n, by show _ = _; rw [HS.out]; simp⟩
                     case measure => simp [intOf]; omega
           · have hdn : d = G.n := by omega
             have HN : Hid (d = G.n) := hdn
             clear hdn
             have HE : Hid (allM G M S c (tl f 0) = (b && allM G M S c (tl f (k + 1)))) := by
               show _ = _
               rw [<- HF.out, allM_cons G M S c hlt, <- HN.out, HD.out]
             cases b with
             | false =>
               go_wp2_with fail
               go_ret
               exact ⟨by rw [HE.out]; rfl, hbel⟩
             | true =>
               go_wp2_with fail
               go_roundw
               case rel => exact ⟨k + 1, by omega, by go_num, hbel, HM, HA, by show _ = _; rw [HE.out]; simp⟩
               case measure => simp [intOf]; omega
       · go_wp2_with fail
         go_ret
         exact ⟨by rw [<- HF.out, allM_nil G M S c (by omega)]; rfl, hbel⟩
def part (i : Nat) (F : Nat -> Bool) (v : Bool) : Nat -> Bool := fun j => if j < i then F j else if j = i then v else false
theorem part_false (i : Nat) (F : Nat -> Bool) : part i F false = upto i F := by
 funext j; unfold part upto; split <;> simp
theorem part_whole (i : Nat) (F : Nat -> Bool) {v : Bool} (h : v = F i) : part i F v = upto (i + 1) F := by
 funext j; unfold part upto
 by_cases h1 : j < i
 · rw [if_pos h1, if_pos (by omega)]
 · rw [if_neg h1]
   by_cases h2 : j = i
   · subst h2; rw [if_pos rfl, if_pos (by omega), h]
   · rw [if_neg h2, if_neg (by omega)]
theorem part_here (i : Nat) (F : Nat -> Bool) (v : Bool) : part i F v i = v := by
 unfold part; rw [if_neg (by omega), if_pos rfl]
theorem Arr.part {w : World} {B n i : Nat} {F : Nat -> Bool} {v : Bool} (h : Arr w B n (part i F v)) (hi : i < n) (u t : Bool) (hu : u = t) : Arr (w.setCell ⟨B, i, none⟩ (.bool u)) B n (YtcfbfdjmcabnkabGreat.part i F t) := by
 subst hu
 refine (h.set i u hi).congr fun j hj => ?_
 unfold YtcfbfdjmcabnkabGreat.part
 by_cases e : j = i
 · subst e; rw [if_pos rfl, if_neg (by omega), if_pos rfl]
 · rw [if_neg e, if_neg e, if_neg e]
theorem Arr.partIn {w : World} {B n i : Nat} {F : Nat -> Bool} (h : Arr w B n (upto i F)) : Arr w B n (YtcfbfdjmcabnkabGreat.part i F false) := by rw [part_false]; exact h
theorem Arr.partOut {w : World} {B n i : Nat} {F : Nat -> Bool} {v : Bool} (h : Arr w B n (YtcfbfdjmcabnkabGreat.part i F v)) (hv : v = F i) : Arr w B n (upto (i + 1) F) := by rw [<- part_whole i F hv]; exact h
def fsOf (f : ByteArray) : List Nat := (tl f 0).map (·.toNat)
theorem load6 {ops : Array Oper} {rest : List Oper} {op : Oper} {a : Act} {w : World} {Q : Exit -> Act -> World -> Prop} (hgd : op.guard = none) (x : Operand) (ho : op.op = .load 75 x)
   (b : Nat) (hx : a.eval x = .pointer (some ⟨b, 0, none⟩)) (f : Nat -> Bool) (hc : Arr w b 6 f)
   (h : wpList Tryz.prog ops Q rest (a.put op.dst (.agg (six f))) w) : wpList Tryz.prog ops Q (op :: rest) a w :=
 loadT 75 6 Tryz.size75 Tryz.row75 hgd x ho b hx _ hc.range (bools_len _ _) h
theorem store6 {ops : Array Oper} {rest : List Oper} {op : Oper} {a : Act} {w : World} {Q : Exit -> Act -> World -> Prop} (hgd : op.guard = none) (x y : Operand) (ho : op.op = .store 75 x y)
   (b : Nat) (f g : Nat -> Bool) (hx : a.eval x = .pointer (some ⟨b, 0, none⟩)) (hy : a.eval y = .agg (six g)) (hc : Arr w b 6 f)
   (h : ∀ w', Below b w w' -> w'.heap.size = w.heap.size -> (∀ k, k ≠ b -> w'.heap[k]? = w.heap[k]?) -> Arr w' b 6 g -> wpList Tryz.prog ops Q rest (a.put op.dst undef) w') : wpList Tryz.prog ops Q (op :: rest) a w := by
 refine wpList_store_mid hgd 75 x y ho b 0 (six g) hx hy hc.there Tryz.size75 (bools_one 6 g) ?_
 have hr : (w.setCells b 0 (six g).toList).rangeAt b 0 (bools 6 g) := World.rangeAt_setCells_same w b 0 (six g).toList hc.there
 refine h _ (below_setCellsT b _ _ _) (size_setCellsT b _ _ _) (block_setCellsT b _ _ _) (arr_of_range ?_ hr ?_)
 · rw [size_setCellsT]; exact hc.lt
 · intro o ho
   rw [World.frozen?_setCells]
   exact hc.z o ho
theorem load36 {ops : Array Oper} {rest : List Oper} {op : Oper} {a : Act} {w : World} {Q : Exit -> Act -> World -> Prop} (hgd : op.guard = none) (x : Operand) (ho : op.op = .load 77 x)
   (b : Nat) (hx : a.eval x = .pointer (some ⟨b, 0, none⟩)) (M : Nat -> Nat -> Bool) (hc : Mat w b M)
   (h : wpList Tryz.prog ops Q rest (a.put op.dst (.agg (bools 36 (flat6 M)).toArray)) w) : wpList Tryz.prog ops Q (op :: rest) a w :=
 loadT 77 36 Tryz.size77 Tryz.row77 hgd x ho b hx _ hc.range (bools_len _ _) h
theorem store36 {ops : Array Oper} {rest : List Oper} {op : Oper} {a : Act} {w : World} {Q : Exit -> Act -> World -> Prop} (hgd : op.guard = none) (x y : Operand) (ho : op.op = .store 77 x y)
   (b : Nat) (M N : Nat -> Nat -> Bool) (hx : a.eval x = .pointer (some ⟨b, 0, none⟩)) (hy : a.eval y = .agg (bools 36 (flat6 N)).toArray) (hc : Mat w b M)
   (h : ∀ w', Below b w w' -> w'.heap.size = w.heap.size -> (∀ k, k ≠ b -> w'.heap[k]? = w.heap[k]?) -> Mat w' b N -> wpList Tryz.prog ops Q rest (a.put op.dst undef) w') : wpList Tryz.prog ops Q (op :: rest) a w := by
 refine wpList_store_mid hgd 77 x y ho b 0 (bools 36 (flat6 N)).toArray hx hy (by rw [bools_size]; exact hc.there) (by rw [bools_size]; exact Tryz.size77) (bools_one 36 _) ?_
 have hr : (w.setCells b 0 (bools 36 (flat6 N)).toArray.toList).rangeAt b 0 (bools 36 (flat6 N)) := World.rangeAt_setCells_same w b 0 (bools 36 (flat6 N)).toArray.toList (by rw [Array.length_toList, bools_size]; exact hc.there)
 refine h _ (below_setCellsT b _ _ _) (size_setCellsT b _ _ _) (block_setCellsT b _ _ _) (mat_of_range ?_ hr ?_)
 · rw [size_setCellsT]; exact hc.lt
 · intro o ho
   rw [World.frozen?_setCells]
   exact hc.z o ho
theorem result6 {fn : Func} {p : Nat} (hf : fn.results = #[.cell p 75]) (tmps : Array Value) (w : World) (b : Nat) (f : Nat -> Bool) (hp : tmps.getD p undef = .pointer (some ⟨b, 0, none⟩)) (hc : Arr w b 6 f) :
   (results fn tmps).run Tryz.prog w = .ok (.agg (six f)) w := resultT hf Tryz.size75 Tryz.row75 tmps w b (bools 6 f) hp hc.range (bools_len _ _)
theorem Below.to {w w1 w2 : World} (h : Below w.heap.size w w1) (g : Below w1.heap.size w1 w2) : Below w.heap.size w w2 := h.trans (g.mono h.size)
theorem stays_is (gb : Nat) (G : Gph) (ok : G.ok) (mk : Nat -> ByteArray) (S : Nat -> Bool) (f : ByteArray) (w : World) (hf : f.size <= 1000) (HG : Hid (Gm w gb G mk)) :
   Calls Tryz.prog 79 #[.pointer (some ⟨gb, 0, none⟩), .agg (six S), .string f] w fun e w' => e = .returned (.agg (six (upto G.n (staysB G (fsOf f) S)))) ∧ Below w.heap.size w w' := by
 have hg6 := HG.out.n6
 have hgl := HG.out.lt
 have HOK : Hid G.ok := ok
 clear ok
 have HA0 : Hid (Arr ((w.alloc (.cells (six S) 75)).alloc (.cells (six fun _ => false) 75)) w.heap.size 6 S) := (arr_new w S 75).alloc _
 have HR0 : Hid (Arr ((w.alloc (.cells (six S) 75)).alloc (.cells (six fun _ => false) 75)) (w.heap.size + 1) 6 (fun _ => false)) := arr_at _ _ 75 _ (by simp)
 have hb0 := below2S w (.cells (six S) 75) (.cells (six fun _ => false) 75)
 have HG0 : Hid (Gm _ gb G mk) := HG.out.below hb0 hgl
 obtain ⟨M, hM⟩ : ∃ M, M = fw G.e S G.n := ⟨_, rfl⟩
 have HF : Hid (∀ i, staysB G (fsOf f) S i = anyU (fun c => (S c && M c c && allM G M S c (tl f 0)) && S i && (i == c || M i c)) G.n) := by
   intro i
   rw [hM]; rfl
 obtain ⟨F, hF⟩ : ∃ F, F = staysB G (fsOf f) S := ⟨_, rfl⟩
 rw [<- hF] at HF
 rw [<- hF]
 have HW : ∀ w', Hid (Gm w' gb G mk) -> Calls Tryz.prog 110 #[.pointer (some ⟨gb, 0, none⟩), .agg (six S)] w' fun e w'' => e = .returned (.agg (bools 36 (flat6 M)).toArray) ∧ Below w'.heap.size w' w'' := by
   intro w' h
   rw [hM]
   exact web_is gb G HOK.out mk S w' h
 clear hM hF
 go_enter Tryz.func79, Tryz.ntmps79
 go_wp2_with (first
   | (refine load6 (by rfl) _ (by rfl) w.heap.size (by rfl) S HA0.out ?_)
   | (go_at_call 110; refine (HW _ HG0).mono ?_; rintro e w1 ⟨rfl, hb1⟩)
   | (refine store36 (by rfl) _ _ (by rfl) w1.heap.size (fun _ _ => false) M (by rfl) (by rfl) (mat_new w1 77 _ rfl) ?_; intro w3 hb3 hz3 hk3 HM3))
 have HA1 : Hid (Arr w1 w.heap.size 6 S) := HA0.out.below hb1 HA0.out.lt
 have HR1 : Hid (Arr w1 (w.heap.size + 1) 6 (fun _ => false)) := HR0.out.below hb1 HR0.out.lt
 have hbel1 : Below w.heap.size w w1 := Below.to hb0 hb1
 have hb13 : Below w1.heap.size w1 w3 := ((Below.refl _ _).alloc (Nat.le_refl _) _).trans hb3
 have HA3 : Hid (Arr w3 w.heap.size 6 S) := HA1.out.below hb13 HA1.out.lt
 have HR3 : Hid (Arr w3 (w.heap.size + 1) 6 (fun _ => false)) := HR1.out.below hb13 HR1.out.lt
 have hbel3 : Below w.heap.size w w3 := Below.to hbel1 hb13
 have HM3' : Hid (Mat w3 w1.heap.size M) := HM3
 have q1 : w.heap.size + 1 < w1.heap.size := HR1.out.lt
 have q2 : w3.heap.size = w1.heap.size + 1 := by rw [hz3]; simp
 clear HM3 hb3 hz3 hk3 HA1 HR1 HA0 HR0 HG0 hb0 hb1 hb13 hbel1
 go_loopw [9] (fun q wr => ∃ i : Nat, i <= G.n ∧ q = .int .i64 i ∧ Below w.heap.size w wr ∧ Hid (Arr wr w.heap.size 6 S) ∧ Hid (Arr wr (w.heap.size + 1) 6 (fun _ => false)) ∧ Hid (Mat wr w1.heap.size M) ∧ Hid (Arr wr (w1.heap.size + 1) 6 (upto i F))) (fun q _ => G.n - (intOf q).toNat)
 case atStart =>
   refine ⟨0, by omega, rfl, Below.to hbel3 ((Below.refl _ _).alloc (Nat.le_refl _) _), HA3.out.alloc _, HR3.out.alloc _, HM3'.out.alloc _, ?_⟩
   show Arr _ _ _ _
   rw [upto_zero]
   exact arr_at _ (fun _ => false) 75 _ q2
 case round =>
   clear HA3 HR3 HM3' hbel3
   obtain ⟨i, hi, rfl, hbel, HA, HR, HM, HS⟩ := hrel
   have hn := (HG.out.below hbel hgl).cn
   by_cases hlt : i < G.n
   · go_wp2_with fail
     clear hn
     go_loopw [10] (fun q wr => ∃ c : Nat, c <= G.n ∧ q = .int .i64 c ∧ Below w.heap.size w wr ∧ Hid (Arr wr w.heap.size 6 S) ∧ Hid (Arr wr (w.heap.size + 1) 6 (fun _ => false)) ∧ Hid (Mat wr w1.heap.size M) ∧ Hid (Arr wr (w1.heap.size + 1) 6 (part i F (anyU (fun c => (S c && M c c && allM G M S c (tl f 0)) && S i && (i == c || M i c)) c)))) (fun q _ => G.n - (intOf q).toNat)
     case atStart => exact ⟨0, by omega, rfl, hbel, HA, HR, HM, HS.out.partIn⟩
     case round =>
       clear hbel HA HR HM HS
       obtain ⟨c, hc, rfl, hbel, HA, HR, HM, HS⟩ := hrel
       have HGr : Hid (Gm _ gb G mk) := HG.out.below hbel hgl
       have hn := HGr.out.cn
       by_cases hcl : c < G.n
       · have ca := HA.out.c i (by omega)
         have cm := HM.out.c i c (by omega) (by omega)
         have zs := HS.out.z i (by omega)
         have cs := HS.out.c i (by omega)
         rw [part_here] at cs
         have i0 : (0 : Int) <= (i : Int) := by omega
         have i1 : (i : Int) < 6 := by omega
         have c0 : (0 : Int) <= (c : Int) := by omega
         have c1 : (c : Int) < 6 := by omega
         have HX := anyU_succ (fun c => (S c && M c c && allM G M S c (tl f 0)) && S i && (i == c || M i c)) c
         obtain ⟨r, hr⟩ : ∃ r, r = (S c && M c c && allM G M S c (tl f 0)) := ⟨_, rfl⟩
         obtain ⟨e, he⟩ : ∃ e, ((i : Int) == (c : Int)) = e := ⟨_, rfl⟩
         have hic : (i == c) = e := by
           rw [<- he, Bool.eq_iff_iff, beq_iff_eq, beq_iff_eq]
           omega
         obtain ⟨x, hx⟩ : ∃ x, x = S i := ⟨_, rfl⟩
         obtain ⟨m, hm⟩ : ∃ m, m = M i c := ⟨_, rfl⟩
         obtain ⟨b, hb⟩ : ∃ b, b = anyU (fun c => (S c && M c c && allM G M S c (tl f 0)) && S i && (i == c || M i c)) c := ⟨_, rfl⟩
         have HC : ∀ w', Hid (Gm w' gb G mk) -> Calls Tryz.prog 111 #[.pointer (some ⟨gb, 0, none⟩), .agg (bools 36 (flat6 M)).toArray, .agg (six S), .int .i64 (c : Int), .string f] w' fun e w'' => e = .returned (.bool r) ∧ Below w'.heap.size w' w'' := by
           intro w' h
           rw [hr]
           exact round_is gb c G mk M S f w' (by omega) hf h
         rw [<- hx] at ca
         rw [<- hm] at cm
         rw [<- hb] at cs
         have HX2 : Hid (anyU (fun c => (S c && M c c && allM G M S c (tl f 0)) && S i && (i == c || M i c)) (c + 1) = (b || (r && x && (e || m)))) := by
           show _ = _
           rw [HX, <- hb, <- hr, <- hx, hic, <- hm]
         clear HX hr hic hx hm hb
         have HN2 : Hid (∀ w', Below w.heap.size w w' -> Arr w' w.heap.size 6 S -> Arr w' (w.heap.size + 1) 6 (fun _ => false) -> Mat w' w1.heap.size M -> Arr w' (w1.heap.size + 1) 6 (part i F (anyU (fun c => (S c && M c c && allM G M S c (tl f 0)) && S i && (i == c || M i c)) c)) -> ∀ v, v = (b || (r && x && (e || m))) ->
             Below w.heap.size w (w'.setCell ⟨w1.heap.size + 1, i, none⟩ (.bool v)) ∧ Hid (Arr (w'.setCell ⟨w1.heap.size + 1, i, none⟩ (.bool v)) w.heap.size 6 S) ∧ Hid (Arr (w'.setCell ⟨w1.heap.size + 1, i, none⟩ (.bool v)) (w.heap.size + 1) 6 (fun _ => false)) ∧ Hid (Mat (w'.setCell ⟨w1.heap.size + 1, i, none⟩ (.bool v)) w1.heap.size M) ∧ Hid (Arr (w'.setCell ⟨w1.heap.size + 1, i, none⟩ (.bool v)) (w1.heap.size + 1) 6 (part i F (anyU (fun c => (S c && M c c && allM G M S c (tl f 0)) && S i && (i == c || M i c)) (c + 1))))) := by
           intro w' h1 h2 h3 h4 h5 v hv
           exact ⟨h1.setCell (by simp; omega) _, h2.setOther _ (by simp; omega), h3.setOther _ (by simp; omega), h4.setOther _ (by simp), h5.part (by omega) _ _ (by rw [HX2.out]; exact hv)⟩
         have HNX := HC _ HGr
         cases b with
         | true =>
           go_wp2_with (first
             | (refine load36 (by rfl) _ (by rfl) w1.heap.size (by rfl) _ HM.out ?_)
             | (refine load6 (by rfl) _ (by rfl) w.heap.size (by rfl) _ HA.out ?_)
             | (go_at_call 111; refine HNX.mono ?_; rintro e' w4 ⟨rfl, hb4⟩
                have ca4 := (hb4.cell (p := ⟨w.heap.size, i, none⟩) HA.out.lt).trans ca
                have cm4 := (hb4.cell (p := ⟨w1.heap.size, i * 6 + c, none⟩) HM.out.lt).trans cm
                have cs4 := (hb4.cell (p := ⟨w1.heap.size + 1, i, none⟩) HS.out.lt).trans cs
                have zs4 := (hb4.frozen (p := ⟨w1.heap.size + 1, i, none⟩) HS.out.lt).trans zs))
           go_roundw
           case rel => exact ⟨c + 1, by omega, by go_num, HN2.out _ (Below.to hbel hb4) (HA.out.below hb4 HA.out.lt) (HR.out.below hb4 HR.out.lt) (HM.out.below hb4 HM.out.lt) (HS.out.below hb4 HS.out.lt) _ (by simp)⟩
           case measure => simp [intOf]; omega
         | false =>
           cases r with
           | false =>
             go_wp2_with (first
               | (refine load36 (by rfl) _ (by rfl) w1.heap.size (by rfl) _ HM.out ?_)
               | (refine load6 (by rfl) _ (by rfl) w.heap.size (by rfl) _ HA.out ?_)
               | (go_at_call 111; refine HNX.mono ?_; rintro e' w4 ⟨rfl, hb4⟩
                  have ca4 := (hb4.cell (p := ⟨w.heap.size, i, none⟩) HA.out.lt).trans ca
                  have cm4 := (hb4.cell (p := ⟨w1.heap.size, i * 6 + c, none⟩) HM.out.lt).trans cm
                  have cs4 := (hb4.cell (p := ⟨w1.heap.size + 1, i, none⟩) HS.out.lt).trans cs
                  have zs4 := (hb4.frozen (p := ⟨w1.heap.size + 1, i, none⟩) HS.out.lt).trans zs))
             go_roundw
             case rel => exact ⟨c + 1, by omega, by go_num, HN2.out _ (Below.to hbel hb4) (HA.out.below hb4 HA.out.lt) (HR.out.below hb4 HR.out.lt) (HM.out.below hb4 HM.out.lt) (HS.out.below hb4 HS.out.lt) _ (by simp)⟩
             case measure => simp [intOf]; omega
           | true =>
             cases x with
             | false =>
               go_wp2_with (first
                 | (refine load36 (by rfl) _ (by rfl) w1.heap.size (by rfl) _ HM.out ?_)
                 | (refine load6 (by rfl) _ (by rfl) w.heap.size (by rfl) _ HA.out ?_)
                 | (go_at_call 111; refine HNX.mono ?_; rintro e' w4 ⟨rfl, hb4⟩
                    have ca4 := (hb4.cell (p := ⟨w.heap.size, i, none⟩) HA.out.lt).trans ca
                    have cm4 := (hb4.cell (p := ⟨w1.heap.size, i * 6 + c, none⟩) HM.out.lt).trans cm
                    have cs4 := (hb4.cell (p := ⟨w1.heap.size + 1, i, none⟩) HS.out.lt).trans cs
                    have zs4 := (hb4.frozen (p := ⟨w1.heap.size + 1, i, none⟩) HS.out.lt).trans zs))
               go_roundw
               case rel => exact ⟨c + 1, by omega, by go_num, HN2.out _ (Below.to hbel hb4) (HA.out.below hb4 HA.out.lt) (HR.out.below hb4 HR.out.lt) (HM.out.below hb4 HM.out.lt) (HS.out.below hb4 HS.out.lt) _ (by simp)⟩
               case measure => simp [intOf]; omega
             | true =>
               cases e with
               | true =>
                 go_wp2_with (first
                   | (refine load36 (by rfl) _ (by rfl) w1.heap.size (by rfl) _ HM.out ?_)
                   | (refine load6 (by rfl) _ (by rfl) w.heap.size (by rfl) _ HA.out ?_)
                   | (go_at_call 111; refine HNX.mono ?_; rintro e' w4 ⟨rfl, hb4⟩
                      have ca4 := (hb4.cell (p := ⟨w.heap.size, i, none⟩) HA.out.lt).trans ca
                      have cm4 := (hb4.cell (p := ⟨w1.heap.size, i * 6 + c, none⟩) HM.out.lt).trans cm
                      have cs4 := (hb4.cell (p := ⟨w1.heap.size + 1, i, none⟩) HS.out.lt).trans cs
                      have zs4 := (hb4.frozen (p := ⟨w1.heap.size + 1, i, none⟩) HS.out.lt).trans zs))
                 go_roundw
                 case rel => exact ⟨c + 1, by omega, by go_num, HN2.out _ (Below.to hbel hb4) (HA.out.below hb4 HA.out.lt) (HR.out.below hb4 HR.out.lt) (HM.out.below hb4 HM.out.lt) (HS.out.below hb4 HS.out.lt) _ (by simp)⟩
                 case measure => simp [intOf]; omega
               | false =>
                 go_wp2_with (first
                   | (refine load36 (by rfl) _ (by rfl) w1.heap.size (by rfl) _ HM.out ?_)
                   | (refine load6 (by rfl) _ (by rfl) w.heap.size (by rfl) _ HA.out ?_)
                   | (go_at_call 111; refine HNX.mono ?_; rintro e' w4 ⟨rfl, hb4⟩
                      have ca4 := (hb4.cell (p := ⟨w.heap.size, i, none⟩) HA.out.lt).trans ca
                      have cm4 := (hb4.cell (p := ⟨w1.heap.size, i * 6 + c, none⟩) HM.out.lt).trans cm
                      have cs4 := (hb4.cell (p := ⟨w1.heap.size + 1, i, none⟩) HS.out.lt).trans cs
                      have zs4 := (hb4.frozen (p := ⟨w1.heap.size + 1, i, none⟩) HS.out.lt).trans zs))
                 go_roundw
                 case rel => exact ⟨c + 1, by omega, by go_num, HN2.out _ (Below.to hbel hb4) (HA.out.below hb4 HA.out.lt) (HR.out.below hb4 HR.out.lt) (HM.out.below hb4 HM.out.lt) (HS.out.below hb4 HS.out.lt) _ (by simp)⟩
                 case measure => simp [intOf]; omega
       · have hcn : c = G.n := by omega
         have HN : Hid (c = G.n) := hcn
         clear hcn
         go_wp2_with fail
         go_roundw
         case rel => exact ⟨i + 1, by omega, by go_num, hbel, HA, HR, HM, HS.out.partOut (by rw [HF.out i, HN.out])⟩
         case measure => simp [intOf]; omega
   · have hkn : i = G.n := by omega
     have HK : Hid (i = G.n) := hkn
     clear hkn
     go_wp2_with (first
       | (refine load6 (by rfl) _ (by rfl) (w1.heap.size + 1) (by rfl) _ HS.out ?_)
       | (refine store6 (by rfl) _ _ (by rfl) (w.heap.size + 1) _ _ (by rfl) (by rfl) HR.out ?_; intro w5 hb5 hz5 hk5 HR5))
     refine bodyPost_ret (result6 Tryz.results79 _ _ (w.heap.size + 1) _ rfl HR5) rfl ⟨?_, hbel.trans (hb5.mono (by omega))⟩
     rw [HK.out]
theorem comes_is (gb : Nat) (G : Gph) (ok : G.ok) (mk : Nat -> ByteArray) (S T : Nat -> Bool) (w : World) (HG : Hid (Gm w gb G mk)) :
   Calls Tryz.prog 81 #[.pointer (some ⟨gb, 0, none⟩), .agg (six S), .agg (six T)] w fun e w' => e = .returned (.agg (six (upto G.n (comesB G S T)))) ∧ Below w.heap.size w w' := by
 have hg6 := HG.out.n6
 have hgl := HG.out.lt
 have HOK : Hid G.ok := ok
 clear ok
 have HA0 : Hid (Arr (((w.alloc (.cells (six S) 75)).alloc (.cells (six T) 75)).alloc (.cells (six fun _ => false) 75)) w.heap.size 6 S) := ((arr_new w S 75).alloc _).alloc _
 have HT0 : Hid (Arr (((w.alloc (.cells (six S) 75)).alloc (.cells (six T) 75)).alloc (.cells (six fun _ => false) 75)) (w.heap.size + 1) 6 T) := (arr_at _ _ 75 _ (by simp)).alloc _
 have HR0 : Hid (Arr (((w.alloc (.cells (six S) 75)).alloc (.cells (six T) 75)).alloc (.cells (six fun _ => false) 75)) (w.heap.size + 1 + 1) 6 (fun _ => false)) := arr_at _ _ 75 _ (by simp)
 have hb0 := below3 w (.cells (six S) 75) (.cells (six T) 75) (.cells (six fun _ => false) 75)
 have HG0 : Hid (Gm _ gb G mk) := HG.out.below hb0 hgl
 obtain ⟨M, hM⟩ : ∃ M, M = fw G.e S G.n := ⟨_, rfl⟩
 have HF : Hid (∀ i, comesB G S T i = (T i || anyU (fun j => T j && M i j) G.n)) := by
   intro i
   rw [hM]; rfl
 obtain ⟨F, hF⟩ : ∃ F, F = comesB G S T := ⟨_, rfl⟩
 rw [<- hF] at HF
 rw [<- hF]
 have HW : ∀ w', Hid (Gm w' gb G mk) -> Calls Tryz.prog 110 #[.pointer (some ⟨gb, 0, none⟩), .agg (six S)] w' fun e w'' => e = .returned (.agg (bools 36 (flat6 M)).toArray) ∧ Below w'.heap.size w' w'' := by
   intro w' h
   rw [hM]
   exact web_is gb G HOK.out mk S w' h
 clear hM hF
 go_enter Tryz.func81, Tryz.ntmps81
 go_wp2_with (first
   | (refine load6 (by rfl) _ (by rfl) w.heap.size (by rfl) S HA0.out ?_)
   | (go_at_call 110; refine (HW _ HG0).mono ?_; rintro e w1 ⟨rfl, hb1⟩)
   | (refine store36 (by rfl) _ _ (by rfl) w1.heap.size (fun _ _ => false) M (by rfl) (by rfl) (mat_new w1 77 _ rfl) ?_; intro w3 hb3 hz3 hk3 HM3))
 have HA1 : Hid (Arr w1 (w.heap.size + 1) 6 T) := HT0.out.below hb1 HT0.out.lt
 have HR1 : Hid (Arr w1 (w.heap.size + 1 + 1) 6 (fun _ => false)) := HR0.out.below hb1 HR0.out.lt
 have hbel1 : Below w.heap.size w w1 := Below.to hb0 hb1
 have hb13 : Below w1.heap.size w1 w3 := ((Below.refl _ _).alloc (Nat.le_refl _) _).trans hb3
 have HA3 : Hid (Arr w3 (w.heap.size + 1) 6 T) := HA1.out.below hb13 HA1.out.lt
 have HR3 : Hid (Arr w3 (w.heap.size + 1 + 1) 6 (fun _ => false)) := HR1.out.below hb13 HR1.out.lt
 have hbel3 : Below w.heap.size w w3 := Below.to hbel1 hb13
 have HM3' : Hid (Mat w3 w1.heap.size M) := HM3
 have q1 : w.heap.size + 1 + 1 < w1.heap.size := HR1.out.lt
 have q2 : w3.heap.size = w1.heap.size + 1 := by rw [hz3]; simp
 clear HM3 hb3 hz3 hk3 HA1 HR1 HA0 HT0 HR0 HG0 hb0 hb1 hb13 hbel1
 go_loopw [9] (fun q wr => ∃ i : Nat, i <= G.n ∧ q = .int .i64 i ∧ Below w.heap.size w wr ∧ Hid (Arr wr (w.heap.size + 1) 6 T) ∧ Hid (Arr wr (w.heap.size + 1 + 1) 6 (fun _ => false)) ∧ Hid (Mat wr w1.heap.size M) ∧ Hid (Arr wr (w1.heap.size + 1) 6 (upto i F))) (fun q _ => G.n - (intOf q).toNat)
 case atStart =>
   refine ⟨0, by omega, rfl, Below.to hbel3 ((Below.refl _ _).alloc (Nat.le_refl _) _), HA3.out.alloc _, HR3.out.alloc _, HM3'.out.alloc _, ?_⟩
   show Arr _ _ _ _
   rw [upto_zero]
   exact arr_at _ (fun _ => false) 75 _ q2
 case round =>
   clear HA3 HR3 HM3' hbel3
   obtain ⟨i, hi, rfl, hbel, HA, HR, HM, HS⟩ := hrel
   have hn := (HG.out.below hbel hgl).cn
   by_cases hlt : i < G.n
   · have i0 : (0 : Int) <= (i : Int) := by omega
     have i1 : (i : Int) < 6 := by omega
     have ca := HA.out.c i (by omega)
     have zs := HS.out.z i (by omega)
     have cs := HS.out.c i (by omega)
     go_wp2_with fail
     clear hn
     go_loopw [10] (fun q wr => ∃ c : Nat, c <= G.n ∧ q = .int .i64 c ∧ Below w.heap.size w wr ∧ Hid (Arr wr (w.heap.size + 1) 6 T) ∧ Hid (Arr wr (w.heap.size + 1 + 1) 6 (fun _ => false)) ∧ Hid (Mat wr w1.heap.size M) ∧ Hid (Arr wr (w1.heap.size + 1) 6 (part i F (T i || anyU (fun j => T j && M i j) c)))) (fun q _ => G.n - (intOf q).toNat)
     case atStart => exact ⟨0, by omega, rfl, hbel.setCell (by simp; omega) _, HA.out.setOther _ (by simp; omega), HR.out.setOther _ (by simp; omega), HM.out.setOther _ (by simp), HS.out.partIn.part (by omega) _ _ (by rw [anyU_zero, Bool.or_false])⟩
     case round =>
       clear hbel HA HR HM HS ca zs cs
       obtain ⟨c, hc, rfl, hbel, HA, HR, HM, HS⟩ := hrel
       have HGr : Hid (Gm _ gb G mk) := HG.out.below hbel hgl
       have hn := HGr.out.cn
       by_cases hcl : c < G.n
       · have ca := HA.out.c c (by omega)
         have cm := HM.out.c i c (by omega) (by omega)
         have zs := HS.out.z i (by omega)
         have cs := HS.out.c i (by omega)
         rw [part_here] at cs
         have c0 : (0 : Int) <= (c : Int) := by omega
         have c1 : (c : Int) < 6 := by omega
         have HX := anyU_succ (fun j => T j && M i j) c
         obtain ⟨x, hx⟩ : ∃ x, x = T c := ⟨_, rfl⟩
         obtain ⟨m, hm⟩ : ∃ m, m = M i c := ⟨_, rfl⟩
         obtain ⟨b, hb⟩ : ∃ b, b = (T i || anyU (fun j => T j && M i j) c) := ⟨_, rfl⟩
         rw [<- hx] at ca
         rw [<- hm] at cm
         rw [<- hb] at cs
         have HX2 : Hid ((T i || anyU (fun j => T j && M i j) (c + 1)) = (b || (x && m))) := by
           show _ = _
           rw [HX, <- Bool.or_assoc, <- hb, <- hx, <- hm]
         clear HX hx hm hb
         cases b with
         | true =>
           go_wp2_with fail
           go_roundw
           case rel => exact ⟨c + 1, by omega, by go_num, hbel.setCell (by simp; omega) _, HA.out.setOther _ (by simp; omega), HR.out.setOther _ (by simp; omega), HM.out.setOther _ (by simp), HS.out.part (by omega) _ _ (by rw [HX2.out]; simp)⟩
           case measure => simp [intOf]; omega
         | false =>
           cases x with
           | false =>
             go_wp2_with fail
             go_roundw
             case rel => exact ⟨c + 1, by omega, by go_num, hbel.setCell (by simp; omega) _, HA.out.setOther _ (by simp; omega), HR.out.setOther _ (by simp; omega), HM.out.setOther _ (by simp), HS.out.part (by omega) _ _ (by rw [HX2.out]; simp)⟩
             case measure => simp [intOf]; omega
           | true =>
             go_wp2_with fail
             go_roundw
             case rel => exact ⟨c + 1, by omega, by go_num, hbel.setCell (by simp; omega) _, HA.out.setOther _ (by simp; omega), HR.out.setOther _ (by simp; omega), HM.out.setOther _ (by simp), HS.out.part (by omega) _ _ (by rw [HX2.out]; simp)⟩
             case measure => simp [intOf]; omega
       · have hcn : c = G.n := by omega
         have HN : Hid (c = G.n) := hcn
         clear hcn
         go_wp2_with fail
         go_roundw
         case rel => exact ⟨i + 1, by omega, by go_num, hbel, HA, HR, HM, HS.out.partOut (by rw [HF.out i, HN.out])⟩
         case measure => simp [intOf]; omega
   · have hkn : i = G.n := by omega
     have HK : Hid (i = G.n) := hkn
     clear hkn
     go_wp2_with (first
       | (refine load6 (by rfl) _ (by rfl) (w1.heap.size + 1) (by rfl) _ HS.out ?_)
       | (refine store6 (by rfl) _ _ (by rfl) (w.heap.size + 1 + 1) _ _ (by rfl) (by rfl) HR.out ?_; intro w5 hb5 hz5 hk5 HR5))
     refine bodyPost_ret (result6 Tryz.results81 _ _ (w.heap.size + 1 + 1) _ rfl HR5) rfl ⟨?_, hbel.trans (hb5.mono (by omega))⟩
     rw [HK.out]
theorem fullB_is (G : Gph) : (upto G.n fun _ => true) = fullB G := by
 funext j
 unfold upto fullB
 by_cases h : j < G.n <;> simp [h]
theorem fullB_of (gb : Nat) (G : Gph) (mk : Nat -> ByteArray) (w : World) (HG : Hid (Gm w gb G mk)) :
   Calls Tryz.prog 80 #[.pointer (some ⟨gb, 0, none⟩)] w fun e w' => e = .returned (.agg (six (fullB G))) ∧ Below w.heap.size w w' := by
 rw [<- fullB_is]
 exact full_is gb G mk w HG
theorem anyN_congr {G : Gph} {p q : Nat -> Bool} (h : ∀ j, j < G.n -> p j = q j) : anyN G p = anyN G q := by
 rw [Bool.eq_iff_iff, anyN_iff, anyN_iff]
 exact ⟨fun ⟨j, hj, hp⟩ => ⟨j, hj, (h j hj) ▸ hp⟩, fun ⟨j, hj, hp⟩ => ⟨j, hj, (h j hj).symm ▸ hp⟩⟩
theorem upto_lt {n j : Nat} {f : Nat -> Bool} (h : j < n) : upto n f j = f j := by unfold upto; rw [if_pos h]
theorem upto_congr {n : Nat} {f g : Nat -> Bool} (h : ∀ j, j < n -> f j = g j) : upto n f = upto n g := by
 funext j; unfold upto; split
 · next h1 => exact h j h1
 · rfl
theorem comes_upto (G : Gph) (a b c : Nat -> Bool) (h : ∀ j, j < G.n -> b j = c j) : upto G.n (comesB G a b) = upto G.n (comesB G a c) := by
 refine upto_congr fun i hi => ?_
 unfold comesB
 rw [h i hi, anyN_congr fun j hj => by rw [h j hj]]
theorem cells1 {w : World} {B : Nat} {f : Nat -> Bool} (h : Arr w B 6 f) : w.cell? ⟨B, 0, none⟩ = some (.bool (f 0)) ∧ w.cell? ⟨B, 1, none⟩ = some (.bool (f 1)) ∧ w.cell? ⟨B, 2, none⟩ = some (.bool (f 2)) ∧ w.cell? ⟨B, 3, none⟩ = some (.bool (f 3)) ∧ w.cell? ⟨B, 4, none⟩ = some (.bool (f 4)) ∧ w.cell? ⟨B, 5, none⟩ = some (.bool (f 5)) :=
 ⟨h.c 0 (by omega), h.c 1 (by omega), h.c 2 (by omega), h.c 3 (by omega), h.c 4 (by omega), h.c 5 (by omega)⟩
theorem Arr.otherK {w w' : World} {B R n : Nat} {f : Nat -> Bool} (h : Arr w B n f) (hs : w'.heap.size = w.heap.size) (hk : ∀ k, k ≠ R -> w'.heap[k]? = w.heap[k]?) (hr : R ≠ B) : Arr w' B n f := by
 have hb := hk B (Ne.symm hr)
 refine ⟨by rw [hs]; exact h.lt, fun j hj => ?_, fun j hj => ?_⟩
 · rw [<- h.c j hj]
   unfold World.cell?
   simp only [hb]
 · rw [<- h.z j hj]
   unfold World.frozen?
   simp only [hb]
theorem stores6 {w : World} {R : Nat} {f : Nat -> Bool} (h : Arr w R 6 f) (g : Nat -> Bool) : ∃ w', (storeCells ⟨R, 0, none⟩ (six g).toList).run Tryz.prog w = .ok () w' ∧ Below R w w' ∧ w'.heap.size = w.heap.size ∧ (∀ k, k ≠ R -> w'.heap[k]? = w.heap[k]?) ∧ Arr w' R 6 g := by
 have hc := run_storeCells_cells (P := Tryz.prog) R 0 (six g).toList 0 w (fun j hj => by simpa using (h.there j (by simpa [six] using hj)).1) (fun j hj => by simpa using (h.there j (by simpa [six] using hj)).2) (fun v hv => (Array.all_eq_true_iff_forall_mem.1 (bools_one 6 g)) v (by
   have : v ∈ (six g).toList := hv
   simpa [six, bools, List.range, List.range.loop] using this))
 refine ⟨_, hc, below_setCellsT R _ _ _, size_setCellsT R _ _ _, block_setCellsT R _ _ _, ?_⟩
 have hr : (w.setCells R 0 (six g).toList).rangeAt R 0 (bools 6 g) := World.rangeAt_setCells_same w R 0 (six g).toList h.there
 refine arr_of_range ?_ hr ?_
 · rw [size_setCellsT]; exact h.lt
 · intro o ho
   rw [World.frozen?_setCells]
   exact h.z o ho
theorem someU_is (gb : Nat) (G : Gph) (ok : G.ok) (mk : Nat -> ByteArray) (S T : Nat -> Bool) (f : ByteArray) (w : World) (hf : f.size <= 1000) (HG : Hid (Gm w gb G mk)) :
   Calls Tryz.prog 56 #[.pointer (some ⟨gb, 0, none⟩), .int .u8 85, .agg (six S), .agg (six T), .string f] w fun e w' => e = .returned (.agg (six (upto G.n (someB G (fsOf f) 85 S T)))) ∧ Below w.heap.size w w' := by
 have hgl := HG.out.lt
 have HOK : Hid G.ok := ok
 clear ok
 have HA0 : Hid (Arr (((w.alloc (.cells (six S) 75)).alloc (.cells (six T) 75)).alloc (.cells (six fun _ => false) 75)) w.heap.size 6 S) := ((arr_new w S 75).alloc _).alloc _
 have HT0 : Hid (Arr (((w.alloc (.cells (six S) 75)).alloc (.cells (six T) 75)).alloc (.cells (six fun _ => false) 75)) (w.heap.size + 1) 6 T) := (arr_at _ _ 75 _ (by simp)).alloc _
 have HR0 : Hid (Arr (((w.alloc (.cells (six S) 75)).alloc (.cells (six T) 75)).alloc (.cells (six fun _ => false) 75)) (w.heap.size + 1 + 1) 6 (fun _ => false)) := arr_at _ _ 75 _ (by simp)
 have hb0 := below3 w (.cells (six S) 75) (.cells (six T) 75) (.cells (six fun _ => false) 75)
 have HG0 : Hid (Gm _ gb G mk) := HG.out.below hb0 hgl
 have HFU := fun w' (h : Hid (Gm w' gb G mk)) => fullB_of gb G mk w' h
 have HST := fun w' (h : Hid (Gm w' gb G mk)) => stays_is gb G HOK.out mk (fullB G) f w' hf h
 have HCO := fun U w' (h : Hid (Gm w' gb G mk)) => comes_is gb G HOK.out mk S U w' h
 have HU : upto G.n (someB G (fsOf f) 85 S T) = upto G.n (comesB G S fun j => T j && upto G.n (liveB G (fsOf f)) j) := by
   rw [comes_upto G S (fun j => T j && upto G.n (liveB G (fsOf f)) j) (fun j => T j && liveB G (fsOf f) j) (fun j hj => by rw [upto_lt hj])]
   rfl
 rw [HU]
 clear HU
 have HL : staysB G (fsOf f) (fullB G) = liveB G (fsOf f) := rfl
 rw [HL] at HST
 clear HL
 obtain ⟨L, hL⟩ : ∃ L, L = upto G.n (liveB G (fsOf f)) := ⟨_, rfl⟩
 rw [<- hL] at HST
 rw [<- hL]
 clear hL
 go_enter Tryz.func56, Tryz.ntmps56
 go_wp2_with (first
   | (go_at_call 80; refine (HFU _ HG0).mono ?_; rintro e w1 ⟨rfl, hb1⟩)
   | (go_at_call 79; refine (HST _ (HG0.out.below hb1 HG0.out.lt)).mono ?_; rintro e w2 ⟨rfl, hb2⟩)
   | (refine store6 (by rfl) _ _ (by rfl) w2.heap.size (fun _ => false) L (by rfl) (by rfl) (arr_at w2 (fun _ => false) 75 _ rfl) ?_; intro w3 hb3 hz3 hk3 HL3))
 have hb02 := Below.to hb1 hb2
 have hb23 : Below w2.heap.size w2 w3 := ((Below.refl _ _).alloc (Nat.le_refl _) _).trans hb3
 have hb03 := Below.to hb02 hb23
 have HA3 : Hid (Arr w3 w.heap.size 6 S) := HA0.out.below hb03 HA0.out.lt
 have HT3 : Hid (Arr w3 (w.heap.size + 1) 6 T) := HT0.out.below hb03 HT0.out.lt
 have HR3 : Hid (Arr w3 (w.heap.size + 1 + 1) 6 (fun _ => false)) := HR0.out.below hb03 HR0.out.lt
 have hbel : Below w.heap.size w w3 := Below.to hb0 hb03
 have HLL : Hid (Arr w3 w2.heap.size 6 L) := HL3
 have q1 : w.heap.size + 1 + 1 < w2.heap.size := (HR0.out.below hb02 HR0.out.lt).lt
 clear HL3 HA0 HT0 HR0 HG0 hb0 hb1 hb2 hb3 hk3 hb02 hb23 hb03 hz3
 go_region_held3 (fun w' => (w'.cell? ⟨w.heap.size, 0, none⟩ = some (.bool (S 0)) ∧ w'.cell? ⟨w.heap.size, 1, none⟩ = some (.bool (S 1)) ∧ w'.cell? ⟨w.heap.size, 2, none⟩ = some (.bool (S 2)) ∧ w'.cell? ⟨w.heap.size, 3, none⟩ = some (.bool (S 3)) ∧ w'.cell? ⟨w.heap.size, 4, none⟩ = some (.bool (S 4)) ∧ w'.cell? ⟨w.heap.size, 5, none⟩ = some (.bool (S 5))) ∧ (w'.cell? ⟨(w.heap.size + 1), 0, none⟩ = some (.bool (T 0)) ∧ w'.cell? ⟨(w.heap.size + 1), 1, none⟩ = some (.bool (T 1)) ∧ w'.cell? ⟨(w.heap.size + 1), 2, none⟩ = some (.bool (T 2)) ∧ w'.cell? ⟨(w.heap.size + 1), 3, none⟩ = some (.bool (T 3)) ∧ w'.cell? ⟨(w.heap.size + 1), 4, none⟩ = some (.bool (T 4)) ∧ w'.cell? ⟨(w.heap.size + 1), 5, none⟩ = some (.bool (T 5))) ∧ (w'.cell? ⟨w2.heap.size, 0, none⟩ = some (.bool (L 0)) ∧ w'.cell? ⟨w2.heap.size, 1, none⟩ = some (.bool (L 1)) ∧ w'.cell? ⟨w2.heap.size, 2, none⟩ = some (.bool (L 2)) ∧ w'.cell? ⟨w2.heap.size, 3, none⟩ = some (.bool (L 3)) ∧ w'.cell? ⟨w2.heap.size, 4, none⟩ = some (.bool (L 4)) ∧ w'.cell? ⟨w2.heap.size, 5, none⟩ = some (.bool (L 5)))) (first
     | exact ⟨cells1 HA3.out.drew, cells1 HT3.out.drew, cells1 HLL.out.drew⟩
     | exact ⟨cells1 HA4.out, cells1 HT4.out, cells1 HL4.out⟩
     | exact ⟨cells1 HA5.out, cells1 HT5.out, cells1 HL5.out⟩
     | exact ⟨cells1 (HA5.out.otherK hz6 hk6 (by omega)), cells1 (HT5.out.otherK hz6 hk6 (by omega)), cells1 (HL5.out.otherK hz6 hk6 (by omega))⟩) (first
   | (go_at_call 54; refine (both_is T L _).mono ?_; rintro e w4 ⟨rfl, hb4⟩
      have HA4 : Hid (Arr w4 w.heap.size 6 S) := HA3.out.drew.below hb4 HA3.out.drew.lt
      have HT4 : Hid (Arr w4 (w.heap.size + 1) 6 T) := HT3.out.drew.below hb4 HT3.out.drew.lt
      have HL4 : Hid (Arr w4 w2.heap.size 6 L) := HLL.out.drew.below hb4 HLL.out.drew.lt
      have HR4 : Hid (Arr w4 (w.heap.size + 1 + 1) 6 (fun _ => false)) := HR3.out.drew.below hb4 HR3.out.drew.lt
      have hbel4 : Below w.heap.size w w4 := Below.to hbel.drew hb4)
   | (go_at_call 81; refine (HCO _ _ (HG.out.below hbel4 hgl)).mono ?_; rintro e w5 ⟨rfl, hb5⟩
      have HA5 : Hid (Arr w5 w.heap.size 6 S) := HA4.out.below hb5 HA4.out.lt
      have HT5 : Hid (Arr w5 (w.heap.size + 1) 6 T) := HT4.out.below hb5 HT4.out.lt
      have HL5 : Hid (Arr w5 w2.heap.size 6 L) := HL4.out.below hb5 HL4.out.lt
      have HR5 : Hid (Arr w5 (w.heap.size + 1 + 1) 6 (fun _ => false)) := HR4.out.below hb5 HR4.out.lt
      have hbel5 : Below w.heap.size w w5 := Below.to hbel4 hb5
      obtain ⟨w6, hrun6, hb6, hz6, hk6, HR6'⟩ := stores6 HR5.out (upto G.n (comesB G S fun j => T j && L j))
      have HR6 : Hid (Arr w6 _ 6 _) := HR6'
      clear HR6'))
 all_goals
   go_wp2_with fail
   exact bodyPost_ret (result6 Tryz.results56 _ _ (w.heap.size + 1 + 1) _ rfl HR6.out) rfl ⟨rfl, hbel5.trans (hb6.mono (by omega))⟩
theorem arr_zero (w : World) (t : TypeId) : Arr (w.alloc (.cells #[.bool false, .bool false, .bool false, .bool false, .bool false, .bool false] t)) w.heap.size 6 (fun _ => false) := arr_new w (fun _ => false) t
theorem Below.past {w w' : World} {o : Obj} (h : Below (w.alloc o).heap.size (w.alloc o) w') : Below w.heap.size w w' := ((Below.refl _ _).alloc (Nat.le_refl _) _).trans (h.mono (by simp))
theorem Below.dr {w w' : World} (h : Below w.drew.heap.size w.drew w') : Below w.heap.size w w' := (Below.refl _ _).drew.trans h
theorem Below.al {w0 w : World} {o : Obj} (h : Below w0.heap.size w0 w) : Below w0.heap.size w0 (w.alloc o) := h.alloc (Nat.le_trans h.size (Nat.le_refl _)) _
abbrev Arr.same {w : World} {B n : Nat} {f : Nat -> Bool} (_ : Hid (Arr w B n f)) (w' : World) (g : Nat -> Bool) : Prop := Arr w' B n g
abbrev Arr.blk {w : World} {B n : Nat} {f : Nat -> Bool} (_ : Hid (Arr w B n f)) : Nat := B
def mix (i : Nat) (F C : Nat -> Bool) : Nat -> Bool := fun j => if j < i then F j else C j
theorem mix_zero (F C : Nat -> Bool) : mix 0 F C = C := by funext j; simp [mix]
theorem mix_here (i : Nat) (F C : Nat -> Bool) : mix i F C i = C i := by simp [mix]
theorem mix_all (n : Nat) (F C : Nat -> Bool) : mix n F (upto n C) = upto n F := by
 funext j; unfold mix upto; split
 · rfl
 · rfl
theorem Arr.mix {w : World} {B n i : Nat} {F C : Nat -> Bool} (h : Arr w B n (mix i F C)) (hi : i < n) (v : Bool) (hv : v = F i) : Arr (w.setCell ⟨B, i, none⟩ (.bool v)) B n (YtcfbfdjmcabnkabGreat.mix (i + 1) F C) := by
 refine (h.set i v hi).congr fun j hj => ?_
 unfold YtcfbfdjmcabnkabGreat.mix
 by_cases e : j = i
 · subst e; simp [hv]
 · rw [if_neg e]
   by_cases h1 : j < i
   · rw [if_pos h1, if_pos (by omega)]
   · rw [if_neg h1, if_neg (by omega)]
theorem someR_is (gb : Nat) (G : Gph) (ok : G.ok) (mk : Nat -> ByteArray) (S T : Nat -> Bool) (f : ByteArray) (w : World) (hf : f.size <= 1000) (HG : Hid (Gm w gb G mk)) :
   Calls Tryz.prog 56 #[.pointer (some ⟨gb, 0, none⟩), .int .u8 82, .agg (six S), .agg (six T), .string f] w fun e w' => e = .returned (.agg (six (upto G.n (someB G (fsOf f) 82 S T)))) ∧ Below w.heap.size w w' := by
 have hgl := HG.out.lt
 have HOK : Hid G.ok := ok
 clear ok
 have HA0 : Hid (Arr (((w.alloc (.cells (six S) 75)).alloc (.cells (six T) 75)).alloc (.cells (six fun _ => false) 75)) w.heap.size 6 S) := ((arr_new w S 75).alloc _).alloc _
 have HT0 : Hid (Arr (((w.alloc (.cells (six S) 75)).alloc (.cells (six T) 75)).alloc (.cells (six fun _ => false) 75)) (w.heap.size + 1) 6 T) := (arr_at _ _ 75 _ (by simp)).alloc _
 have HR0 : Hid (Arr (((w.alloc (.cells (six S) 75)).alloc (.cells (six T) 75)).alloc (.cells (six fun _ => false) 75)) (w.heap.size + 1 + 1) 6 (fun _ => false)) := arr_at _ _ 75 _ (by simp)
 have hb0 := below3 w (.cells (six S) 75) (.cells (six T) 75) (.cells (six fun _ => false) 75)
 have HG0 : Hid (Gm _ gb G mk) := HG.out.below hb0 hgl
 have HFU := fun w' (h : Hid (Gm w' gb G mk)) => fullB_of gb G mk w' h
 have HST := fun w' (h : Hid (Gm w' gb G mk)) => stays_is gb G HOK.out mk (fullB G) f w' hf h
 have HCO := fun U w' (h : Hid (Gm w' gb G mk)) => comes_is gb G HOK.out mk T U w' h
 have HS2 := fun w' (h : Hid (Gm w' gb G mk)) => stays_is gb G HOK.out mk T f w' hf h
 have HU : Hid (∀ i, i < G.n -> someB G (fsOf f) 82 S T i = (upto G.n (comesB G T fun j => (S j && T j) && upto G.n (liveB G (fsOf f)) j) i || upto G.n (staysB G (fsOf f) T) i)) := by
   intro i hi
   rw [comes_upto G T (fun j => (S j && T j) && upto G.n (liveB G (fsOf f)) j) (fun j => (S j && T j) && liveB G (fsOf f) j) (fun j hj => by rw [upto_lt hj]), upto_lt hi, upto_lt hi]
   rfl
 obtain ⟨F, hF⟩ : ∃ F, F = someB G (fsOf f) 82 S T := ⟨_, rfl⟩
 rw [<- hF] at HU
 rw [<- hF]
 clear hF
 have HL : staysB G (fsOf f) (fullB G) = liveB G (fsOf f) := rfl
 rw [HL] at HST
 clear HL
 obtain ⟨L, hL⟩ : ∃ L, L = upto G.n (liveB G (fsOf f)) := ⟨_, rfl⟩
 rw [<- hL] at HST HU
 obtain ⟨D, hD⟩ : ∃ D, D = upto G.n (staysB G (fsOf f) T) := ⟨_, rfl⟩
 rw [<- hD] at HS2 HU
 clear hD
 clear hL
 go_enter Tryz.func56, Tryz.ntmps56
 go_wp2_with (first
   | (go_at_call 80; refine (HFU _ HG0).mono ?_; rintro e w1 ⟨rfl, hb1⟩)
   | (go_at_call 79; refine (HST _ (HG0.out.below hb1 HG0.out.lt)).mono ?_; rintro e w2 ⟨rfl, hb2⟩)
   | (refine store6 (by rfl) _ _ (by rfl) w2.heap.size (fun _ => false) L (by rfl) (by rfl) (arr_at w2 (fun _ => false) 75 _ rfl) ?_; intro w3 hb3 hz3 hk3 HL3))
 have hb02 := Below.to hb1 hb2
 have hb23 : Below w2.heap.size w2 w3 := ((Below.refl _ _).alloc (Nat.le_refl _) _).trans hb3
 have hb03 := Below.to hb02 hb23
 have HA3 : Hid (Arr w3 w.heap.size 6 S) := HA0.out.below hb03 HA0.out.lt
 have HT3 : Hid (Arr w3 (w.heap.size + 1) 6 T) := HT0.out.below hb03 HT0.out.lt
 have HR3 : Hid (Arr w3 (w.heap.size + 1 + 1) 6 (fun _ => false)) := HR0.out.below hb03 HR0.out.lt
 have hbel : Below w.heap.size w w3 := Below.to hb0 hb03
 have HLL : Hid (Arr w3 w2.heap.size 6 L) := HL3
 have q1 : w.heap.size + 1 + 1 < w2.heap.size := (HR0.out.below hb02 HR0.out.lt).lt
 clear HL3 HA0 HT0 HR0 HG0 hb0 hb1 hb2 hb3 hk3 hb02 hb23 hb03 hz3
 have HK : Hid (∀ w', Below w3.heap.size w3 w' -> (fun w' => (w'.cell? ⟨w.heap.size, 0, none⟩ = some (.bool (S 0)) ∧ w'.cell? ⟨w.heap.size, 1, none⟩ = some (.bool (S 1)) ∧ w'.cell? ⟨w.heap.size, 2, none⟩ = some (.bool (S 2)) ∧ w'.cell? ⟨w.heap.size, 3, none⟩ = some (.bool (S 3)) ∧ w'.cell? ⟨w.heap.size, 4, none⟩ = some (.bool (S 4)) ∧ w'.cell? ⟨w.heap.size, 5, none⟩ = some (.bool (S 5))) ∧ (w'.cell? ⟨(w.heap.size + 1), 0, none⟩ = some (.bool (T 0)) ∧ w'.cell? ⟨(w.heap.size + 1), 1, none⟩ = some (.bool (T 1)) ∧ w'.cell? ⟨(w.heap.size + 1), 2, none⟩ = some (.bool (T 2)) ∧ w'.cell? ⟨(w.heap.size + 1), 3, none⟩ = some (.bool (T 3)) ∧ w'.cell? ⟨(w.heap.size + 1), 4, none⟩ = some (.bool (T 4)) ∧ w'.cell? ⟨(w.heap.size + 1), 5, none⟩ = some (.bool (T 5))) ∧ (w'.cell? ⟨w2.heap.size, 0, none⟩ = some (.bool (L 0)) ∧ w'.cell? ⟨w2.heap.size, 1, none⟩ = some (.bool (L 1)) ∧ w'.cell? ⟨w2.heap.size, 2, none⟩ = some (.bool (L 2)) ∧ w'.cell? ⟨w2.heap.size, 3, none⟩ = some (.bool (L 3)) ∧ w'.cell? ⟨w2.heap.size, 4, none⟩ = some (.bool (L 4)) ∧ w'.cell? ⟨w2.heap.size, 5, none⟩ = some (.bool (L 5)))) w') := fun w' h => ⟨cells1 (HA3.out.below h HA3.out.lt), cells1 (HT3.out.below h HT3.out.lt), cells1 (HLL.out.below h HLL.out.lt)⟩
 go_region_held3 (fun w' => (w'.cell? ⟨w.heap.size, 0, none⟩ = some (.bool (S 0)) ∧ w'.cell? ⟨w.heap.size, 1, none⟩ = some (.bool (S 1)) ∧ w'.cell? ⟨w.heap.size, 2, none⟩ = some (.bool (S 2)) ∧ w'.cell? ⟨w.heap.size, 3, none⟩ = some (.bool (S 3)) ∧ w'.cell? ⟨w.heap.size, 4, none⟩ = some (.bool (S 4)) ∧ w'.cell? ⟨w.heap.size, 5, none⟩ = some (.bool (S 5))) ∧ (w'.cell? ⟨(w.heap.size + 1), 0, none⟩ = some (.bool (T 0)) ∧ w'.cell? ⟨(w.heap.size + 1), 1, none⟩ = some (.bool (T 1)) ∧ w'.cell? ⟨(w.heap.size + 1), 2, none⟩ = some (.bool (T 2)) ∧ w'.cell? ⟨(w.heap.size + 1), 3, none⟩ = some (.bool (T 3)) ∧ w'.cell? ⟨(w.heap.size + 1), 4, none⟩ = some (.bool (T 4)) ∧ w'.cell? ⟨(w.heap.size + 1), 5, none⟩ = some (.bool (T 5))) ∧ (w'.cell? ⟨w2.heap.size, 0, none⟩ = some (.bool (L 0)) ∧ w'.cell? ⟨w2.heap.size, 1, none⟩ = some (.bool (L 1)) ∧ w'.cell? ⟨w2.heap.size, 2, none⟩ = some (.bool (L 2)) ∧ w'.cell? ⟨w2.heap.size, 3, none⟩ = some (.bool (L 3)) ∧ w'.cell? ⟨w2.heap.size, 4, none⟩ = some (.bool (L 4)) ∧ w'.cell? ⟨w2.heap.size, 5, none⟩ = some (.bool (L 5)))) (first
     | exact HK.out _ hc7
     | exact HK.out _ hc6
     | exact HK.out _ (Below.al hc6)
     | exact HK.out _ hc5
     | exact HK.out _ (Below.al hc5)
     | exact HK.out _ hc4
     | exact HK.out _ (Below.al hc4)
     | exact HK.out _ (Below.refl _ _).drew
     | exact HK.out _ (Below.al (Below.refl _ _).drew)) (first
   | (go_at_call_of 54 (Value.agg (six fun j => S j && T j)); refine (both_is (fun j => S j && T j) L _).mono ?_; rintro e w5 ⟨rfl, hb5⟩
      have hc5 : Below w3.heap.size w3 w5 := by first | exact Below.to hc4 hb5 | exact Below.to hc4 (Below.past hb5)
      first
        | (have HP5 : Hid (Arr w5 w4.heap.size 6 (fun _ => false)) := (arr_at w4 (fun _ => false) 75 _ rfl).below hb5 (by simp))
        | (have HP5 := HP4.out.below hb5 HP4.out.lt)
        | skip)
   | (go_at_call 54; refine (both_is S T _).mono ?_; rintro e w4 ⟨rfl, hb4⟩
      have hc4 : Below w3.heap.size w3 w4 := by first | exact Below.dr hb4 | exact Below.dr (Below.past hb4)
      first
        | (have HP4 : Hid (Arr w4 w3.heap.size 6 (fun _ => false)) := (arr_at w3.drew (fun _ => false) 75 _ rfl).below hb4 (by simp))
        | skip)
   | (go_at_call 81; refine (HCO _ _ (HG.out.below (by first | exact Below.to hbel hc5 | exact Below.to hbel (Below.al hc5)) hgl)).mono ?_; rintro e w6 ⟨rfl, hb6⟩
      have hc6 : Below w3.heap.size w3 w6 := by first | exact Below.to hc5 hb6 | exact Below.to hc5 (Below.past hb6)
      first
        | (have HP6 := (arr_at w5 (fun _ => false) 75 _ rfl).below hb6 (by simp)
           obtain ⟨w7, hrun7, hb7, hz7, hk7, HR7⟩ := stores6 HP6 (upto G.n (comesB G T fun j => (S j && T j) && L j)))
        | (have HP6 := Arr.below HP5 hb6 (Arr.lt HP5)
           obtain ⟨w7, hrun7, hb7, hz7, hk7, HR7⟩ := stores6 HP6 (upto G.n (comesB G T fun j => (S j && T j) && L j)))
        | (obtain ⟨w7, hrun7, hb7, hz7, hk7, HR7⟩ := stores6 (arr_zero w6 75) (upto G.n (comesB G T fun j => (S j && T j) && L j)))
      have hc7 : Below w3.heap.size w3 w7 := by
        first
          | exact hc6.trans (hb7.mono (by first | exact Nat.le_refl _ | exact hc4.size | exact hc5.size | exact hc6.size))
          | exact (Below.al hc6).trans (hb7.mono (by first | exact Nat.le_refl _ | exact hc4.size | exact hc5.size | exact hc6.size))))
 all_goals
   have HP7 : Hid (Arr w7 _ 6 _) := HR7
   have q7 : w3.heap.size <= Arr.blk HP7 := by first | exact Nat.le_refl _ | exact hc4.size | exact hc5.size | exact hc6.size
   have q3 : w.heap.size + 1 + 1 < w3.heap.size := HR3.out.lt
   have HT7 : Hid (Arr w7 (w.heap.size + 1) 6 T) := HT3.out.below hc7 HT3.out.lt
   have HRR : Hid (Arr w7 (w.heap.size + 1 + 1) 6 (fun _ => false)) := HR3.out.below hc7 HR3.out.lt
   have hbel7 : Below w.heap.size w w7 := Below.to hbel hc7
   have HG7 : Hid (Gm w7 gb G mk) := HG.out.below hbel7 hgl
   clear HK hrun7 hb7 hz7 hk7 HR7
   go_wp2_with (first
     | (refine load6 (by rfl) _ (by rfl) (w.heap.size + 1) (by rfl) T HT7.out ?_)
     | (go_at_call 79; refine (HS2 _ HG7).mono ?_; rintro e w8 ⟨rfl, hb8⟩)
     | (refine store6 (by rfl) _ _ (by rfl) w8.heap.size (fun _ => false) D (by rfl) (by rfl) (arr_zero w8 75) ?_; intro w9 hb9 hz9 hk9 HD9))
   have hc8 : Below w7.heap.size w7 w9 := hb8.trans ((((Below.refl _ _).alloc (Nat.le_refl _) _).trans hb9).mono hb8.size)
   have HP9 : Hid (Arr w9 _ 6 _) := HP7.out.below hc8 HP7.out.lt
   have HR9 : Hid (Arr w9 (w.heap.size + 1 + 1) 6 (fun _ => false)) := HRR.out.below hc8 HRR.out.lt
   have HD9' : Hid (Arr w9 w8.heap.size 6 D) := HD9
   have hbel9 : Below w.heap.size w w9 := Below.to hbel7 hc8
   have q8 : Arr.blk HP7 < w8.heap.size := Nat.lt_of_lt_of_le HP7.out.lt hb8.size
   have e1 : w8.heap.size ≠ Arr.blk HP7 := by omega
   have e2 : w.heap.size + 1 + 1 ≠ Arr.blk HP7 := by omega
   have e3 : w.heap.size <= Arr.blk HP7 := by omega
   clear hc8 HT7 HRR HG7 HD9 hb9 hz9 hk9
   go_loopw [17] (fun q wr => ∃ i : Nat, i <= G.n ∧ q = .int .i64 i ∧ Below w.heap.size w wr ∧ Hid (Arr wr (w.heap.size + 1 + 1) 6 (fun _ => false)) ∧ Hid (Arr wr w8.heap.size 6 D) ∧ Hid (Arr.same HP9 wr (mix i F (upto G.n (comesB G T fun j => S j && T j && L j))))) (fun q _ => G.n - (intOf q).toNat)
   case atStart =>
     refine ⟨0, by omega, rfl, hbel9, HR9, HD9', ?_⟩
     show Arr _ _ _ _
     rw [mix_zero]
     exact HP9.out
   case round =>
     clear hbel9 HR9 HD9'
     obtain ⟨i, hi, rfl, hbel9, HR, HD, HS⟩ := hrel
     have hn := (HG.out.below hbel9 hgl).cn
     have hg6 := HG.out.n6
     by_cases hlt : i < G.n
     · have i0 : (0 : Int) <= (i : Int) := by omega
       have i1 : (i : Int) < 6 := by omega
       have cd := HD.out.c i (by omega)
       have cs := HS.out.c i (by omega)
       have zs := HS.out.z i (by omega)
       rw [mix_here] at cs
       have HX : Hid (F i = (upto G.n (comesB G T fun j => S j && T j && L j) i || D i)) := HU.out i hlt
       obtain ⟨x, hx⟩ : ∃ x, x = upto G.n (comesB G T fun j => S j && T j && L j) i := ⟨_, rfl⟩
       rw [<- hx] at cs HX
       clear hx
       cases x with
       | true =>
         go_wp2_with fail
         go_roundw
         case rel => exact ⟨i + 1, by omega, by go_num, hbel9.setCell e3 _, HR.out.setOther _ (Ne.symm e2), HD.out.setOther _ (Ne.symm e1), HS.out.mix (by omega) _ (by rw [HX.out]; simp)⟩
         case measure => simp [intOf]; omega
       | false =>
         go_wp2_with fail
         go_roundw
         case rel => exact ⟨i + 1, by omega, by go_num, hbel9.setCell e3 _, HR.out.setOther _ (Ne.symm e2), HD.out.setOther _ (Ne.symm e1), HS.out.mix (by omega) _ (by rw [HX.out]; simp)⟩
         case measure => simp [intOf]; omega
     · have hkn : i = G.n := by omega
       have HKn : Hid (i = G.n) := hkn
       clear hkn
       go_wp2_with (first
         | (refine load6 (by rfl) _ (by rfl) (Arr.blk HP9) (by rfl) _ HS.out ?_)
         | (refine store6 (by rfl) _ _ (by rfl) (w.heap.size + 1 + 1) _ _ (by rfl) (by rfl) HR.out ?_; intro w5 hb5 hz5 hk5 HR5))
       refine bodyPost_ret (result6 Tryz.results56 _ _ (w.heap.size + 1 + 1) _ rfl HR5) rfl ⟨?_, hbel9.trans (hb5.mono (by omega))⟩
       rw [HKn.out, mix_all]
end Go.Proofs.YtcfbfdjmcabnkabGreat
