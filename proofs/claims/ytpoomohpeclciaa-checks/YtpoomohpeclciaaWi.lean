import Derived.Test.YtpoomohpeclciaaWh
import Derived.BigRegion
namespace Go.Proofs.Ytpoomohpeclciaa
open Go.RowKit Fw
set_option linter.unusedVariables false

set_option maxRecDepth 100000 in
set_option maxHeartbeats 1000000 in
theorem loadGraph_long (s : ByteArray) (w : World) (hs : ¬ s.size ≤ 210) :
    Calls Try.prog 21 #[.string s] w fun e w' => (∃ cs : List Value, e = .returned (.agg (.int .i64 1 :: .int .i64 0 :: cs).toArray) ∧ cs.length = 37 ∧ ∀ v ∈ cs, v.oneCell' = true) ∧ Below w.heap.size w w' := by
  have h : (210 : Int) < (s.size : Int) := by omega
  go_enter Try.func21, Try.ntmps21
  go_wp2_with (first | (refine build49a (by rfl) (by rfl) ?_) | (refine store49 (by rfl) _ _ (by rfl) w.heap.size (cells39 1 0) (by rfl) (by rfl) (there_new _ _ _ rfl) (cells39_size _ _) (cells39_one _ _) ?_; intro w1 hb1 hz1 hk1 hr1))
  exact bodyPost_ret (v := .agg (cells39 1 0)) (result49 _ _ w.heap.size _ rfl hr1 rfl) rfl ⟨⟨rest37, rfl, rfl, rest37_one⟩, ((Below.refl _ _).alloc (Nat.le_refl _) _).trans hb1⟩

theorem gr_new2 (w : World) (o : Obj) (s : ByteArray) : Gr ((w.alloc o).alloc (.cells #[.int .i64 0, .int .i64 0, .int .i64 0, .bool false, .bool false, .bool false, .bool false, .bool false, .bool false, .bool false, .bool false, .bool false, .bool false, .bool false, .bool false, .bool false, .bool false, .bool false, .bool false, .bool false, .bool false, .bool false, .bool false, .bool false, .bool false, .bool false, .bool false, .bool false, .bool false, .bool false, .bool false, .bool false, .bool false, .bool false, .bool false, .bool false, .bool false, .bool false, .bool false] 49)) (w.heap.size + 1) 0 (mat s []) := by
  have h := gr_new (w.alloc o) s
  rw [show (w.alloc o).heap.size = w.heap.size + 1 from by simp] at h
  exact h

theorem there_below {w w' : World} {B b n : Nat} (h : Below B w w') (hb : b < B) (ht : w.there b 0 n) : w'.there b 0 n := by
  intro j hj
  rw [h.cell (p := ⟨b, 0 + j, none⟩) hb, h.frozen (p := ⟨b, 0 + j, none⟩) hb]
  exact ht j hj

def grCells (c : Nat) (M : Nat → Nat → Bool) : List Value := .int .i64 (c : Int) :: (List.range 36).map fun k => .bool (M (k / 6) (k % 6))

theorem grCells_len (c : Nat) (M : Nat → Nat → Bool) : (grCells c M).length = 37 := by simp [grCells]

theorem grCells_one (c : Nat) (M : Nat → Nat → Bool) : ∀ v ∈ grCells c M, v.oneCell' = true := by
  intro v hv
  simp only [grCells, List.mem_cons, List.mem_map] at hv
  rcases hv with rfl | ⟨k, _, rfl⟩ <;> rfl

theorem Gr.range {w : World} {b c : Nat} {M : Nat → Nat → Bool} (h : Gr w b c M) : w.rangeAt b 0 (.int .i64 0 :: .int .i64 0 :: grCells c M) := by
  intro j v hv
  match j, hv with
  | 0, hv => simp at hv; subst hv; exact h.e0
  | 1, hv => simp at hv; subst hv; exact h.e1
  | 2, hv => simp [grCells] at hv; subst hv; exact h.cn
  | j + 3, hv =>
    have hj : j < 36 := by
      have := (List.getElem?_eq_some_iff.1 hv).1
      simp [grCells] at this
      omega
    simp [grCells, List.getElem?_map, List.getElem?_range hj] at hv
    subst hv
    have := h.mx (j / 6) (j % 6) (by omega) (by omega)
    rw [show 3 + j / 6 * 6 + j % 6 = 0 + (j + 3) from by omega] at this
    exact this

theorem there_new2 (w : World) (C D : Array Value) (t u : TypeId) (h : C.size = 39) : ((w.alloc (.cells C t)).alloc (.cells D u)).there w.heap.size 0 39 := World.there_alloc (there_new w C t h) _

theorem below2 (w : World) (o p : Obj) : Below w.heap.size w ((w.alloc o).alloc p) := ((Below.refl _ _).alloc (Nat.le_refl _) _).alloc (by simp) _

set_option maxRecDepth 100000 in
set_option maxHeartbeats 1000000 in
theorem loadGraph_any (s : ByteArray) (w : World) (hs : s.size ≤ 210) :
    Calls Try.prog 21 #[.string s] w fun e w' => (∃ cs : List Value, e = .returned (.agg (.int .i64 ((chk s).1 : Nat) :: .int .i64 ((chk s).2 : Nat) :: cs).toArray) ∧ cs.length = 37 ∧ ∀ v ∈ cs, v.oneCell' = true) ∧ Below w.heap.size w w' := by
  go_enter Try.func21, Try.ntmps21
  go_wp2_with fail
  have HG : Hid (Gr _ _ 0 (mat s [])) := gr_new2 w (.cells #[.int .i64 0, .int .i64 0, .int .i64 0, .bool false, .bool false, .bool false, .bool false, .bool false, .bool false, .bool false, .bool false, .bool false, .bool false, .bool false, .bool false, .bool false, .bool false, .bool false, .bool false, .bool false, .bool false, .bool false, .bool false, .bool false, .bool false, .bool false, .bool false, .bool false, .bool false, .bool false, .bool false, .bool false, .bool false, .bool false, .bool false, .bool false, .bool false, .bool false, .bool false] 49) s
  have HT : Hid (World.there _ w.heap.size 0 39) := there_new2 w #[.int .i64 0, .int .i64 0, .int .i64 0, .bool false, .bool false, .bool false, .bool false, .bool false, .bool false, .bool false, .bool false, .bool false, .bool false, .bool false, .bool false, .bool false, .bool false, .bool false, .bool false, .bool false, .bool false, .bool false, .bool false, .bool false, .bool false, .bool false, .bool false, .bool false, .bool false, .bool false, .bool false, .bool false, .bool false, .bool false, .bool false, .bool false, .bool false, .bool false, .bool false] #[.int .i64 0, .int .i64 0, .int .i64 0, .bool false, .bool false, .bool false, .bool false, .bool false, .bool false, .bool false, .bool false, .bool false, .bool false, .bool false, .bool false, .bool false, .bool false, .bool false, .bool false, .bool false, .bool false, .bool false, .bool false, .bool false, .bool false, .bool false, .bool false, .bool false, .bool false, .bool false, .bool false, .bool false, .bool false, .bool false, .bool false, .bool false, .bool false, .bool false, .bool false] 49 49 rfl
  have HW : Hid (Below w.heap.size w _) := below2 w (.cells #[.int .i64 0, .int .i64 0, .int .i64 0, .bool false, .bool false, .bool false, .bool false, .bool false, .bool false, .bool false, .bool false, .bool false, .bool false, .bool false, .bool false, .bool false, .bool false, .bool false, .bool false, .bool false, .bool false, .bool false, .bool false, .bool false, .bool false, .bool false, .bool false, .bool false, .bool false, .bool false, .bool false, .bool false, .bool false, .bool false, .bool false, .bool false, .bool false, .bool false, .bool false] 49) (.cells #[.int .i64 0, .int .i64 0, .int .i64 0, .bool false, .bool false, .bool false, .bool false, .bool false, .bool false, .bool false, .bool false, .bool false, .bool false, .bool false, .bool false, .bool false, .bool false, .bool false, .bool false, .bool false, .bool false, .bool false, .bool false, .bool false, .bool false, .bool false, .bool false, .bool false, .bool false, .bool false, .bool false, .bool false, .bool false, .bool false, .bool false, .bool false, .bool false, .bool false, .bool false] 49)
  refine (readStates_any s (w.heap.size + 1) _ hs HG).mono ?_
  rintro e w3 ⟨hb3, ⟨hr, rfl⟩ | ⟨hr, q, rfl, hg⟩⟩
  · have HR : Hid ((run s 6 0).1 = false) := hr
    clear hr
    have HT3 : Hid (w3.there w.heap.size 0 39) := there_below hb3 (by omega) HT.out
    have HB3 : Hid (Below w.heap.size w w3) := HW.out.trans (hb3.mono (by omega))
    clear hb3 HT HW HG
    go_wp2_with (first | (refine build49b (by rfl) _ (by rfl) _ (by rfl) ?_) | (refine store49 (by rfl) _ _ (by rfl) w.heap.size (cells39 2 ((run s 6 0).2.1 : Nat)) (by rfl) (by rfl) HT3.out (cells39_size _ _) (cells39_one _ _) ?_; intro w4 hb4 hz4 hk4 hr4))
    exact bodyPost_ret (v := .agg (cells39 2 ((run s 6 0).2.1 : Nat))) (result49 _ _ w.heap.size _ rfl hr4 rfl) rfl ⟨⟨rest37, by rw [chk_fail HR.out]; rfl, rfl, rest37_one⟩, HB3.out.trans hb4⟩
  · have HR : Hid ((run s 6 0).1 = true) := hr
    clear hr
    have HT3 : Hid (w3.there w.heap.size 0 39) := there_below hb3 (by omega) HT.out
    have HB3 : Hid (Below w.heap.size w w3) := HW.out.trans (hb3.mono (by omega))
    have HG3 : Hid (Gr w3 (w.heap.size + 1) (run s 6 0).2.2.length (mat s (run s 6 0).2.2)) := hg
    clear hb3 HT HW HG hg
    have hlen := (run_starts s 6 0 (by omega)).1
    go_wp2_with fail
    refine (astray_any s (w.heap.size + 1) (run s 6 0).2.2 _ hlen HG3).mono ?_
    rintro e w4 ⟨rfl, ⟨hf, rfl⟩ | ⟨i, hf, rfl⟩⟩
    · have HF : Hid (firstBad s (run s 6 0).2.2.length 0 (run s 6 0).2.2 = none) := hf
      clear hf
      go_wp2_with (first | (refine load49 (by rfl) _ (by rfl) (w.heap.size + 1) (by rfl) _ HG3.out.range (by simp [grCells_len]) ?_) | (refine store49 (by rfl) _ _ (by rfl) w.heap.size _ (by rfl) (by rfl) HT3.out (size_cons37 _ _ _ (grCells_len _ _)) (one_cons37 _ _ _ rfl rfl (grCells_one _ _)) ?_; intro w5 hb5 hz5 hk5 hr5))
      exact bodyPost_ret (v := .agg (Value.int .i64 0 :: .int .i64 0 :: grCells (run s 6 0).2.2.length (mat s (run s 6 0).2.2)).toArray) (result49 _ _ w.heap.size _ rfl hr5 (by simp [grCells_len])) rfl ⟨⟨_, by rw [chk_good HR.out HF.out]; rfl, grCells_len _ _, grCells_one _ _⟩, HB3.out.trans hb5⟩
    · have HF : Hid (firstBad s (run s 6 0).2.2.length 0 (run s 6 0).2.2 = some i) := hf
      clear hf
      go_wp2_with (first | (refine build49c (by rfl) _ (by rfl) _ (by rfl) ?_) | (refine store49 (by rfl) _ _ (by rfl) w.heap.size (cells39 3 (i : Nat)) (by rfl) (by rfl) HT3.out (cells39_size _ _) (cells39_one _ _) ?_; intro w5 hb5 hz5 hk5 hr5))
      exact bodyPost_ret (v := .agg (cells39 3 (i : Nat))) (result49 _ _ w.heap.size _ rfl hr5 rfl) rfl ⟨⟨rest37, by rw [chk_bad HR.out HF.out]; rfl, rfl, rest37_one⟩, HB3.out.trans hb5⟩

end Go.Proofs.Ytpoomohpeclciaa
