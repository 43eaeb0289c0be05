import Derived.Test.YtkjnhhbibaimfaaWa
import Derived.Test.YtkjnhhbibaimfaaWays
import Derived.BigQuiet
import Derived.BigRegion
namespace Go.Proofs.Ytkjnhhbibaimfaa
open Go.RowKit Fw
set_option linter.unusedVariables false

/-- how many bytes stand ahead of the first c -/
def findc (c : Nat) : List UInt8 → Nat
  | [] => 0
  | d :: r => if d.toNat = c then 0 else findc c r + 1

theorem findc_le (c : Nat) (l : List UInt8) : findc c l ≤ l.length := by
  induction l with
  | nil => exact Nat.le_refl _
  | cons d r ih => unfold findc; split <;> simp; omega

theorem findc_lt (c : Nat) (l : List UInt8) : findc c l < l.length ↔ ∃ d ∈ l, d.toNat = c := by
  induction l with
  | nil => simp [findc]
  | cons d r ih =>
    unfold findc
    by_cases h : d.toNat = c
    · simp [h]
    · rw [if_neg h]
      simp only [List.length_cons, List.mem_cons]
      constructor
      · intro h1
        obtain ⟨x, hx, he⟩ := ih.1 (by omega)
        exact ⟨x, .inr hx, he⟩
      · rintro ⟨x, rfl | hx, he⟩
        · exact absurd he h
        · have := ih.2 ⟨x, hx, he⟩
          omega

theorem findc_yes {s : ByteArray} {c k : Nat} (h : k < s.size) (hc : s[k].toNat = c) : findc c (tl s k) = 0 := by
  rw [tl_cons s k h, findc, if_pos hc]
theorem findc_no {s : ByteArray} {c k : Nat} (h : k < s.size) (hc : ¬ s[k].toNat = c) : findc c (tl s k) = findc c (tl s (k + 1)) + 1 := by
  rw [tl_cons s k h, findc, if_neg hc]
theorem findc_end {s : ByteArray} {c k : Nat} (h : s.size ≤ k) : findc c (tl s k) = 0 := by
  rw [tl_nil s k h]; rfl

set_option maxHeartbeats 400000 in
theorem upTo_is (s : ByteArray) (p c : Nat) (w : World) (hs : s.size ≤ 140737488351232) (hp : p ≤ s.size) :
    Calls Try.prog 84 #[.string s, .int .i64 (p : Int), .int .u8 (c : Int)] w fun e w' => e = .returned (.int .i64 ((p + findc c (tl s p) : Nat) : Int)) ∧ w' = w := by
  go_enter Try.func84, Try.ntmps84
  go_wp2
  go_loop [7] (fun q => ∃ k : Nat, k ≤ s.size ∧ q = .int .i64 k ∧ Hid (k + findc c (tl s k) = p + findc c (tl s p))) (fun q => s.size - (intOf q).toNat)
  case atStart => exact ⟨p, hp, rfl, rfl⟩
  case round =>
    obtain ⟨k, hk, rfl, HF⟩ := hrel
    by_cases hlt : k < s.size
    · by_cases hc : s[k].toNat = c
      · have hc' : ((s[k].toNat : Int) == (c : Int)) = true := by rw [beq_iff_eq]; omega
        have HZ : Hid (findc c (tl s k) = 0) := findc_yes hlt hc
        clear hc
        go_wp2
        go_ret
        have h := HF.out
        rw [HZ.out] at h
        exact ⟨ret_int (by omega), rfl⟩
      · have hc' : ((s[k].toNat : Int) == (c : Int)) = false := by rw [beq_eq_false_iff_ne]; omega
        have HZ : Hid (findc c (tl s k) = findc c (tl s (k + 1)) + 1) := findc_no hlt hc
        go_wp2
        go_round
        case rel =>
          refine ⟨k + 1, by omega, by go_num, ?_⟩
          have h := HF.out
          rw [HZ.out] at h
          show _ = _
          omega
        case measure => simp [intOf]; omega
    · go_wp2
      go_ret
      have h := HF.out
      rw [findc_end (by omega)] at h
      exact ⟨ret_int (by omega), rfl⟩

theorem upTo_0 (s : ByteArray) (c : Nat) (w : World) (hs : s.size ≤ 140737488351232) :
    Calls Try.prog 84 #[.string s, .int .i64 0, .int .u8 (c : Int)] w fun e w' => e = .returned (.int .i64 ((findc c (tl s 0) : Nat) : Int)) ∧ w' = w := by
  have := upTo_is s 0 c w hs (by omega)
  rw [Nat.zero_add] at this
  exact this

/-- a row of bools in block B -/
structure Arr (w : World) (B n : Nat) (f : Nat → Bool) : Prop where
  lt : B < w.heap.size
  c : ∀ j, j < n → w.cell? ⟨B, j, none⟩ = some (.bool (f j))
  z : ∀ j, j < n → w.frozen? ⟨B, j, none⟩ = false

theorem addrS {b o p : Nat} (h : o ≠ p) : (⟨b, o, none⟩ : Addr) ≠ ⟨b, p, none⟩ := by
  intro e
  injection e
  contradiction
theorem addrB {b c o p : Nat} (h : b ≠ c) : (⟨b, o, none⟩ : Addr) ≠ ⟨c, p, none⟩ := by
  intro e
  injection e
  contradiction
theorem cell_otherS {w : World} {a b : Addr} {v : Value} (h : a ≠ b) : (w.setCell a v).cell? b = w.cell? b := World.cell?_setCell_other _ _ _ _ h
theorem cell_sameS {w : World} {a : Addr} {u v : Value} (h : w.cell? a = some u) : (w.setCell a v).cell? a = some v := World.cell?_setCell_same _ _ _ h

theorem Arr.set {w : World} {B n : Nat} {f : Nat → Bool} (h : Arr w B n f) (i : Nat) (v : Bool) (hi : i < n) : Arr (w.setCell ⟨B, i, none⟩ (.bool v)) B n (fun j => if j = i then v else f j) := by
  refine ⟨by simpa using h.lt, ?_, ?_⟩
  · intro j hj
    by_cases e : j = i
    · subst e
      rw [cell_sameS (h.c j hj)]
      simp
    · rw [cell_otherS (addrS (Ne.symm e)), h.c j hj]
      simp [e]
  · intro j hj
    rw [World.frozen?_setCell]
    exact h.z j hj

theorem Arr.setOther {w : World} {B n : Nat} {f : Nat → Bool} (h : Arr w B n f) {a : Addr} (v : Value) (ha : a.block ≠ B) : Arr (w.setCell a v) B n f := by
  refine ⟨by simpa using h.lt, ?_, ?_⟩
  · intro j hj
    rw [cell_otherS (by intro e; rw [e] at ha; exact ha rfl)]
    exact h.c j hj
  · intro j hj
    rw [World.frozen?_setCell]
    exact h.z j hj

theorem Arr.below {w w' : World} {K B n : Nat} {f : Nat → Bool} (h : Arr w B n f) (hb : Below K w w') (hk : B < K) : Arr w' B n f :=
  ⟨Nat.lt_of_lt_of_le h.lt hb.size, fun j hj => (hb.cell (p := ⟨B, j, none⟩) hk).trans (h.c j hj), fun j hj => (hb.frozen (p := ⟨B, j, none⟩) hk).trans (h.z j hj)⟩

theorem Arr.alloc {w : World} {B n : Nat} {f : Nat → Bool} (h : Arr w B n f) (o : Obj) : Arr (w.alloc o) B n f :=
  h.below ((Below.refl w.heap.size w).alloc (Nat.le_refl _) o) h.lt

theorem Arr.drewN {w : World} {B n : Nat} {f : Nat → Bool} (h : Arr w B n f) (k : Nat) : Arr (w.drewN k) B n f := ⟨h.lt, h.c, h.z⟩

theorem Arr.of_block {w : World} {B n : Nat} {f : Nat → Bool} {C : Array Value} {t : TypeId} (hb : w.heap[B]? = some (.cells C t)) (hc : ∀ j, j < n → C[j]? = some (.bool (f j))) : Arr w B n f := by
  refine ⟨?_, fun j hj => ?_, fun j hj => frozen_of_row _ _ _ _ _ hb⟩
  · rcases Nat.lt_or_ge B w.heap.size with h | h
    · exact h
    · rw [Array.getElem?_eq_none h] at hb; cases hb
  · rw [cell_of_row _ _ _ _ _ _ hb]
    exact hc j hj

/-- a set as a value -/
def six (S : Nat → Bool) : Array Value := #[.bool (S 0), .bool (S 1), .bool (S 2), .bool (S 3), .bool (S 4), .bool (S 5)]

theorem six_get (S : Nat → Bool) : ∀ j, j < 6 → (six S)[j]? = some (.bool (S j)) := by
  intro j hj
  obtain rfl | rfl | rfl | rfl | rfl | rfl := (by omega : j = 0 ∨ j = 1 ∨ j = 2 ∨ j = 3 ∨ j = 4 ∨ j = 5) <;> rfl

theorem arr_new (w : World) (S : Nat → Bool) (t : TypeId) : Arr (w.alloc (.cells (six S) t)) w.heap.size 6 S := Arr.of_block (heap_alloc_new w _) (six_get S)

theorem six_congr {S T : Nat → Bool} (h : ∀ j, j < 6 → S j = T j) : six S = six T := by
  simp only [six, h 0 (by omega), h 1 (by omega), h 2 (by omega), h 3 (by omega), h 4 (by omega), h 5 (by omega)]

/-- the graph that lies behind a pointer -/
structure Gm (w : World) (gb : Nat) (G : Gph) (mk : Nat → ByteArray) : Prop where
  lt : gb < w.heap.size
  n6 : G.n ≤ 6
  cn : w.cell? ⟨gb, 0, none⟩ = some (.int .i64 (G.n : Int))
  ce : ∀ i j, i < 6 → j < 6 → w.cell? ⟨gb, 1 + i * 6 + j, none⟩ = some (.bool (G.e i j))
  cm : ∀ i, i < 6 → w.cell? ⟨gb, 37 + i, none⟩ = some (.string (mk i))
  ms : ∀ i, (mk i).size ≤ 1000
  mm : ∀ i c, i < 6 → (G.m i c = true ↔ ∃ d ∈ (mk i).data.toList, d.toNat = c)

theorem Gm.below {w w' : World} {gb K : Nat} {G : Gph} {mk : Nat → ByteArray} (h : Gm w gb G mk) (hb : Below K w w') (hk : gb < K) : Gm w' gb G mk :=
  ⟨Nat.lt_of_lt_of_le h.lt hb.size, h.n6, (hb.cell (p := ⟨gb, 0, none⟩) hk).trans h.cn, fun i j hi hj => (hb.cell (p := ⟨gb, 1 + i * 6 + j, none⟩) hk).trans (h.ce i j hi hj), fun i hi => (hb.cell (p := ⟨gb, 37 + i, none⟩) hk).trans (h.cm i hi), h.ms, h.mm⟩

theorem tlS (s : ByteArray) : tl s 0 = s.data.toList := by simp [tl]

set_option maxRecDepth 100000 in
set_option maxHeartbeats 1000000 in
theorem bears_is (gb i c : Nat) (G : Gph) (mk : Nat → ByteArray) (w : World) (hi : i < 6) (HG : Hid (Gm w gb G mk)) :
    Calls Try.prog 100 #[.pointer (some ⟨gb, 0, none⟩), .int .i64 (i : Int), .int .u8 (c : Int)] w fun e w' => e = .returned (.bool (G.m i c)) ∧ ∃ n, w' = w.drewN n := by
  have hm := HG.out.cm i hi
  obtain ⟨s, hs⟩ : ∃ s, s = mk i := ⟨_, rfl⟩
  have hsz : s.size ≤ 1000 := by rw [hs]; exact HG.out.ms i
  rw [← hs] at hm
  have HB : Hid (G.m i c = decide (findc c (tl s 0) < s.size)) := by
    show _ = _
    rw [Bool.eq_iff_iff, HG.out.mm i c hi, ← hs, decide_eq_true_eq, tlS]
    have := findc_lt c s.data.toList
    rw [← this]
    have e : s.size = s.data.toList.length := by
      show s.data.size = _
      rw [Array.length_toList]
    rw [e]
  have k0 : (0 : Int) ≤ (i : Int) := by omega
  have k1 : (i : Int) < 6 := by omega
  clear hs
  go_enter Try.func100, Try.ntmps100
  go_wp2_with fail
  go_quiet ((go_at_call 84; exact Calls.quiet_of_same (upTo_0 s c _ (by omega))))
  go_wp2
  go_ret
  exact ⟨by rw [HB.out]; simp, _, rfl⟩

end Go.Proofs.Ytkjnhhbibaimfaa
