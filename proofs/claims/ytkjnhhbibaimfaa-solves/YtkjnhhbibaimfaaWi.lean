import Derived.Test.YtkjnhhbibaimfaaWh
import Derived.BigRegion
namespace Go.Proofs.Ytkjnhhbibaimfaa
open Go.RowKit Fw
set_option linter.unusedVariables false

set_option maxRecDepth 100000 in
set_option maxHeartbeats 1000000 in
theorem loadGraph_long (s : ByteArray) (w : World) (hs : ¬ s.size ≤ 210) :
    Calls Try.prog 45 #[.string s] w fun e w' => (∃ cs : List Value, e = .returned (.agg (.int .i64 1 :: .int .i64 0 :: cs).toArray) ∧ cs.length = 43 ∧ ∀ v ∈ cs, v.oneCell' = true) ∧ Below w.heap.size w w' := by
  have h : (210 : Int) < (s.size : Int) := by omega
  go_enter Try.func45, Try.ntmps45
  go_wp2_with (first | (refine build49a (by rfl) (by rfl) ?_) | (refine store49 (by rfl) _ _ (by rfl) w.heap.size (cells45 1 0) (by rfl) (by rfl) (there_new _ _ _ rfl) (cells45_size _ _) (cells45_one _ _) ?_; intro w1 hb1 hz1 hk1 hr1))
  exact bodyPost_ret (v := .agg (cells45 1 0)) (result49 _ _ w.heap.size _ rfl hr1 rfl) rfl ⟨⟨rest43, rfl, rfl, rest43_one⟩, ((Below.refl _ _).alloc (Nat.le_refl _) _).trans hb1⟩

theorem gr_new2 (w : World) (o : Obj) (s : ByteArray) : Gr ((w.alloc o).alloc (.cells #[.int .i64 0, .int .i64 0, .int .i64 0, .string ByteArray.empty, .string ByteArray.empty, .string ByteArray.empty, .string ByteArray.empty, .string ByteArray.empty, .string ByteArray.empty, .bool false, .bool false, .bool false, .bool false, .bool false, .bool false, .bool false, .bool false, .bool false, .bool false, .bool false, .bool false, .bool false, .bool false, .bool false, .bool false, .bool false, .bool false, .bool false, .bool false, .bool false, .bool false, .bool false, .bool false, .bool false, .bool false, .bool false, .bool false, .bool false, .bool false, .bool false, .bool false, .bool false, .bool false, .bool false, .bool false] 58)) (w.heap.size + 1) 0 (mat s []) (mrk s []) := by
  have h := gr_new (w.alloc o) s
  rw [show (w.alloc o).heap.size = w.heap.size + 1 from by simp] at h
  exact h

theorem there_below {w w' : World} {B b n : Nat} (h : Below B w w') (hb : b < B) (ht : w.there b 0 n) : w'.there b 0 n := by
  intro j hj
  rw [h.cell (p := ⟨b, 0 + j, none⟩) hb, h.frozen (p := ⟨b, 0 + j, none⟩) hb]
  exact ht j hj

def grCells (c : Nat) (M : Nat → Nat → Bool) (K : Nat → ByteArray) : List Value := .int .i64 (c : Int) :: (((List.range 6).map fun k => .string (K k)) ++ (List.range 36).map fun k => .bool (M (k / 6) (k % 6)))

theorem grCells_len (c : Nat) (M : Nat → Nat → Bool) (K : Nat → ByteArray) : (grCells c M K).length = 43 := by simp [grCells]

theorem grCells_one (c : Nat) (M : Nat → Nat → Bool) (K : Nat → ByteArray) : ∀ v ∈ grCells c M K, v.oneCell' = true := by
  intro v hv
  simp only [grCells, List.mem_cons, List.mem_append, List.mem_map] at hv
  rcases hv with rfl | ⟨k, _, rfl⟩ | ⟨k, _, rfl⟩ <;> rfl

theorem grCells_mark (c : Nat) (M : Nat → Nat → Bool) (K : Nat → ByteArray) (i : Nat) (hi : i < 6) : (grCells c M K)[1 + i]? = some (.string (K i)) := by
  unfold grCells
  rw [show 1 + i = i + 1 from by omega, List.getElem?_cons_succ, List.getElem?_append_left (by simp; omega), List.getElem?_map, List.getElem?_range hi]
  rfl
theorem grCells_edge (c : Nat) (M : Nat → Nat → Bool) (K : Nat → ByteArray) (i j : Nat) (hi : i < 6) (hj : j < 6) : (grCells c M K)[7 + i * 6 + j]? = some (.bool (M i j)) := by
  unfold grCells
  rw [show 7 + i * 6 + j = (6 + (i * 6 + j)) + 1 from by omega, List.getElem?_cons_succ, List.getElem?_append_right (by simp), List.getElem?_map]
  simp only [List.length_map, List.length_range]
  rw [show 6 + (i * 6 + j) - 6 = i * 6 + j from by omega, List.getElem?_range (by omega)]
  simp only [Option.map_some]
  rw [show (i * 6 + j) / 6 = i from by omega, show (i * 6 + j) % 6 = j from by omega]

theorem Gr.range {w : World} {b c : Nat} {M : Nat → Nat → Bool} {K : Nat → ByteArray} (h : Gr w b c M K) : w.rangeAt b 0 (.int .i64 0 :: .int .i64 0 :: grCells c M K) := by
  intro j v hv
  match j, hv with
  | 0, hv => simp at hv; subst hv; exact h.e0
  | 1, hv => simp at hv; subst hv; exact h.e1
  | 2, hv => simp [grCells] at hv; subst hv; exact h.cn
  | j + 3, hv =>
    have hj : j < 42 := by
      have := (List.getElem?_eq_some_iff.1 hv).1
      simp [grCells] at this
      omega
    rw [List.getElem?_cons_succ, List.getElem?_cons_succ] at hv
    by_cases h6 : j < 6
    · rw [show j + 1 = 1 + j from by omega, grCells_mark c M K j h6] at hv
      injection hv with hv
      subst hv
      have := h.ms j h6
      rw [show 3 + j = 0 + (j + 3) from by omega] at this
      exact this
    · rw [show j + 1 = 7 + (j - 6) / 6 * 6 + (j - 6) % 6 from by omega, grCells_edge c M K _ _ (by omega) (by omega)] at hv
      injection hv with hv
      subst hv
      have := h.mx ((j - 6) / 6) ((j - 6) % 6) (by omega) (by omega)
      rw [show 9 + (j - 6) / 6 * 6 + (j - 6) % 6 = 0 + (j + 3) from by omega] at this
      exact this

theorem there_new2 (w : World) (C D : Array Value) (t u : TypeId) (h : C.size = 45) : ((w.alloc (.cells C t)).alloc (.cells D u)).there w.heap.size 0 45 := World.there_alloc (there_new w C t h) _

theorem below2 (w : World) (o p : Obj) : Below w.heap.size w ((w.alloc o).alloc p) := ((Below.refl _ _).alloc (Nat.le_refl _) _).alloc (by simp) _

set_option maxRecDepth 100000 in
set_option maxHeartbeats 1000000 in
theorem loadGraph_any (s : ByteArray) (w : World) (hs : s.size ≤ 210) :
    Calls Try.prog 45 #[.string s] w fun e w' => (∃ cs : List Value, e = .returned (.agg (.int .i64 ((chk s).1 : Nat) :: .int .i64 ((chk s).2 : Nat) :: cs).toArray) ∧ cs.length = 43 ∧ (∀ v ∈ cs, v.oneCell' = true) ∧ ((chk s).1 = 0 → cs = grCells (run s 6 0).2.2.length (mat s (run s 6 0).2.2) (mrk s (run s 6 0).2.2))) ∧ Below w.heap.size w w' := by
  go_enter Try.func45, Try.ntmps45
  go_wp2_with fail
  have HG : Hid (Gr _ _ 0 (mat s []) (mrk s [])) := gr_new2 w (.cells #[.int .i64 0, .int .i64 0, .int .i64 0, .string ByteArray.empty, .string ByteArray.empty, .string ByteArray.empty, .string ByteArray.empty, .string ByteArray.empty, .string ByteArray.empty, .bool false, .bool false, .bool false, .bool false, .bool false, .bool false, .bool false, .bool false, .bool false, .bool false, .bool false, .bool false, .bool false, .bool false, .bool false, .bool false, .bool false, .bool false, .bool false, .bool false, .bool false, .bool false, .bool false, .bool false, .bool false, .bool false, .bool false, .bool false, .bool false, .bool false, .bool false, .bool false, .bool false, .bool false, .bool false, .bool false] 58) s
  have HT : Hid (World.there _ w.heap.size 0 45) := there_new2 w #[.int .i64 0, .int .i64 0, .int .i64 0, .string ByteArray.empty, .string ByteArray.empty, .string ByteArray.empty, .string ByteArray.empty, .string ByteArray.empty, .string ByteArray.empty, .bool false, .bool false, .bool false, .bool false, .bool false, .bool false, .bool false, .bool false, .bool false, .bool false, .bool false, .bool false, .bool false, .bool false, .bool false, .bool false, .bool false, .bool false, .bool false, .bool false, .bool false, .bool false, .bool false, .bool false, .bool false, .bool false, .bool false, .bool false, .bool false, .bool false, .bool false, .bool false, .bool false, .bool false, .bool false, .bool false] #[.int .i64 0, .int .i64 0, .int .i64 0, .string ByteArray.empty, .string ByteArray.empty, .string ByteArray.empty, .string ByteArray.empty, .string ByteArray.empty, .string ByteArray.empty, .bool false, .bool false, .bool false, .bool false, .bool false, .bool false, .bool false, .bool false, .bool false, .bool false, .bool false, .bool false, .bool false, .bool false, .bool false, .bool false, .bool false, .bool false, .bool false, .bool false, .bool false, .bool false, .bool false, .bool false, .bool false, .bool false, .bool false, .bool false, .bool false, .bool false, .bool false, .bool false, .bool false, .bool false, .bool false, .bool false] 58 58 rfl
  have HW : Hid (Below w.heap.size w _) := below2 w (.cells #[.int .i64 0, .int .i64 0, .int .i64 0, .string ByteArray.empty, .string ByteArray.empty, .string ByteArray.empty, .string ByteArray.empty, .string ByteArray.empty, .string ByteArray.empty, .bool false, .bool false, .bool false, .bool false, .bool false, .bool false, .bool false, .bool false, .bool false, .bool false, .bool false, .bool false, .bool false, .bool false, .bool false, .bool false, .bool false, .bool false, .bool false, .bool false, .bool false, .bool false, .bool false, .bool false, .bool false, .bool false, .bool false, .bool false, .bool false, .bool false, .bool false, .bool false, .bool false, .bool false, .bool false, .bool false] 58) (.cells #[.int .i64 0, .int .i64 0, .int .i64 0, .string ByteArray.empty, .string ByteArray.empty, .string ByteArray.empty, .string ByteArray.empty, .string ByteArray.empty, .string ByteArray.empty, .bool false, .bool false, .bool false, .bool false, .bool false, .bool false, .bool false, .bool false, .bool false, .bool false, .bool false, .bool false, .bool false, .bool false, .bool false, .bool false, .bool false, .bool false, .bool false, .bool false, .bool false, .bool false, .bool false, .bool false, .bool false, .bool false, .bool false, .bool false, .bool false, .bool false, .bool false, .bool false, .bool false, .bool false, .bool false, .bool false] 58)
  refine (readStates_any s (w.heap.size + 1) _ hs HG).mono ?_
  rintro e w3 ⟨hb3, ⟨hr, rfl⟩ | ⟨hr, q, rfl, hg⟩⟩
  · have HR : Hid ((run s 6 0).1 = false) := hr
    clear hr
    have HT3 : Hid (w3.there w.heap.size 0 45) := there_below hb3 (by omega) HT.out
    have HB3 : Hid (Below w.heap.size w w3) := HW.out.trans (hb3.mono (by omega))
    clear hb3 HT HW HG
    go_wp2_with (first | (refine build49b (by rfl) _ (by rfl) _ (by rfl) ?_) | (refine store49 (by rfl) _ _ (by rfl) w.heap.size (cells45 2 ((run s 6 0).2.1 : Nat)) (by rfl) (by rfl) HT3.out (cells45_size _ _) (cells45_one _ _) ?_; intro w4 hb4 hz4 hk4 hr4))
    exact bodyPost_ret (v := .agg (cells45 2 ((run s 6 0).2.1 : Nat))) (result49 _ _ w.heap.size _ rfl hr4 rfl) rfl ⟨⟨rest43, by rw [chk_fail HR.out]; rfl, rfl, rest43_one, fun h => by rw [chk_fail HR.out] at h; cases h⟩, HB3.out.trans hb4⟩
  · have HR : Hid ((run s 6 0).1 = true) := hr
    clear hr
    have HT3 : Hid (w3.there w.heap.size 0 45) := there_below hb3 (by omega) HT.out
    have HB3 : Hid (Below w.heap.size w w3) := HW.out.trans (hb3.mono (by omega))
    have HG3 : Hid (Gr w3 (w.heap.size + 1) (run s 6 0).2.2.length (mat s (run s 6 0).2.2) (mrk s (run s 6 0).2.2)) := hg
    clear hb3 HT HW HG hg
    have hlen := (run_starts s 6 0 (by omega)).1
    go_wp2_with fail
    refine (astray_any s (w.heap.size + 1) (run s 6 0).2.2 _ hlen HG3).mono ?_
    rintro e w4 ⟨rfl, ⟨hf, rfl⟩ | ⟨i, hf, rfl⟩⟩
    · have HF : Hid (firstBad s (run s 6 0).2.2.length 0 (run s 6 0).2.2 = none) := hf
      clear hf
      go_wp2_with (first | (refine load49 (by rfl) _ (by rfl) (w.heap.size + 1) (by rfl) _ HG3.out.range (by simp [grCells_len]) ?_) | (refine store49 (by rfl) _ _ (by rfl) w.heap.size _ (by rfl) (by rfl) HT3.out (size_cons43 _ _ _ (grCells_len _ _ _)) (one_cons43 _ _ _ rfl rfl (grCells_one _ _ _)) ?_; intro w5 hb5 hz5 hk5 hr5))
      exact bodyPost_ret (v := .agg (Value.int .i64 0 :: .int .i64 0 :: grCells (run s 6 0).2.2.length (mat s (run s 6 0).2.2) (mrk s (run s 6 0).2.2)).toArray) (result49 _ _ w.heap.size _ rfl hr5 (by simp [grCells_len])) rfl ⟨⟨_, by rw [chk_good HR.out HF.out]; rfl, grCells_len _ _ _, grCells_one _ _ _, fun _ => rfl⟩, HB3.out.trans hb5⟩
    · have HF : Hid (firstBad s (run s 6 0).2.2.length 0 (run s 6 0).2.2 = some i) := hf
      clear hf
      go_wp2_with (first | (refine build49c (by rfl) _ (by rfl) _ (by rfl) ?_) | (refine store49 (by rfl) _ _ (by rfl) w.heap.size (cells45 3 (i : Nat)) (by rfl) (by rfl) HT3.out (cells45_size _ _) (cells45_one _ _) ?_; intro w5 hb5 hz5 hk5 hr5))
      exact bodyPost_ret (v := .agg (cells45 3 (i : Nat))) (result49 _ _ w.heap.size _ rfl hr5 rfl) rfl ⟨⟨rest43, by rw [chk_bad HR.out HF.out]; rfl, rfl, rest43_one, fun h => by rw [chk_bad HR.out HF.out] at h; cases h⟩, HB3.out.trans hb5⟩

end Go.Proofs.Ytkjnhhbibaimfaa
