import Derived.Test.YtkjnhhbibaimfaaPp
import Derived.Test.YtkjnhhbibaimfaaZh
namespace Go.Proofs.Ytkjnhhbibaimfaa
open Go.RowKit Fw
open Go.Deep (BT)
set_option linter.unusedVariables false

theorem skip_0 (s : ByteArray) (w : World) (hs : s.size ≤ 210) : Calls Try.prog 63 #[.string s, .int .i64 0] w fun e w' => e = .returned (.int .i64 ((scan 122 97 (tl s 0) : Nat) : Int)) ∧ w' = w := by
  have := skip_any s 0 w hs (by omega)
  rw [Nat.zero_add] at this
  exact this

set_option maxRecDepth 100000 in
set_option maxHeartbeats 1000000 in
theorem fair_P (f : ByteArray) (w : World) (hf : f.size ≤ 9223372036854775807) : Calls Try.prog 46 #[.string f] w fun e w' => e = .returned (.bool (fairOk f)) ∧ w' = w := by
  unfold fairOk
  by_cases h : f.size ≤ 2
  · have h1 : (f.size : Int) ≤ 2 := by omega
    have HS := skip_0 f w (by omega)
    have HD : Hid ((decide (f.size ≤ 2) && decide (scan 122 97 (tl f 0) = f.size)) = (((scan 122 97 (tl f 0) : Nat) : Int) == (f.size : Int))) := by
      show _ = _
      rw [show decide (f.size ≤ 2) = true from by simpa using h, Bool.true_and, Bool.eq_iff_iff, decide_eq_true_eq, beq_iff_eq]
      omega
    rw [HD.out]
    clear HD
    obtain ⟨c, hc⟩ : ∃ c, c = scan 122 97 (tl f 0) := ⟨_, rfl⟩
    rw [← hc] at HS
    rw [← hc]
    clear hc
    go_enter Try.func46, Try.ntmps46
    go_wp2_with (go_at_call 63; refine HS.mono ?_; rintro e w1 ⟨rfl, rfl⟩)
    go_ret
    exact ⟨rfl, rfl⟩
  · have h1 : ¬ (f.size : Int) ≤ 2 := by omega
    rw [show decide (f.size ≤ 2) = false from by simpa using h, Bool.false_and]
    go_enter Try.func46, Try.ntmps46
    go_wp2_with fail
    go_ret
    exact ⟨rfl, rfl⟩

theorem Try.size66 : (Try.prog.info? 66).map (·.size) = some 57 := by kernel_rfl
theorem Try.row66 : ∃ d, Try.prog.underlying 66 = some d ∧ d.isRow = true := ⟨_, Try.underlying66, rfl⟩

def rest56 : List Value := .int .i64 0 :: .int .i64 0 :: (rest43 ++ (.string ByteArray.empty :: (bools 6 (fun _ => false) ++ [.int .i64 0, .int .i64 0, .slice none 0 0, .int .i64 0])))
theorem rest56_len : rest56.length = 56 := rfl
theorem rest56_one : ∀ v ∈ rest56, v.oneCell' = true := by
  intro v hv
  simp only [rest56, List.mem_cons, List.mem_append, List.not_mem_nil, or_false] at hv
  rcases hv with rfl | rfl | hv | rfl | hv | rfl | rfl | rfl | rfl
  · rfl
  · rfl
  · exact rest43_one v hv
  · rfl
  · simp only [bools, List.mem_map] at hv
    obtain ⟨k, _, rfl⟩ := hv
    rfl
  · rfl
  · rfl
  · rfl
  · rfl
theorem built66e (e : Int) : Try.prog.built 66 [(0, .int .i64 e)] = some (.int .i64 e :: rest56).toArray := by kernel_rfl
theorem built66 (c : Nat) (M : Nat → Nat → Bool) (K : Nat → ByteArray) (f : ByteArray) (B : Nat → Bool) (a b d e : Value) : Try.prog.built 66 [(1, .agg (cells52 c M K f B).toArray), (2, .agg #[a, b, d, e])] = some (.int .i64 0 :: (cells52 c M K f B ++ [a, b, d, e])).toArray := by kernel_rfl

theorem build66e {ops : Array Oper} {rest : List Oper} {o : Oper} {a : Act} {w : World} {Q : Exit → Act → World → Prop} (hgd : o.guard = none) (x : Operand) (ho : o.op = .build 66 #[(0, x)])
    (e : Int) (hx : a.eval x = .int .i64 e)
    (h : wpList Try.prog ops Q rest (a.put o.dst (.agg (.int .i64 e :: rest56).toArray)) w) : wpList Try.prog ops Q (o :: rest) a w := by
  have hv : ((#[(0, x)] : Array (Nat × Operand)).map fun (i, x) => (i, a.eval x)).toList = [(0, .int .i64 e)] := by simp [hx]
  refine wpList_build hgd 66 #[(0, x)] ho (by rw [hv, built66e]; rfl) ?_
  rw [hv, built66e]
  exact h

theorem size57 (e : Int) (cs : List Value) (h : cs.length = 56) : (Value.int .i64 e :: cs).toArray.size = 57 := by simp [h]
theorem one57 (e : Int) (cs : List Value) (h : ∀ v ∈ cs, v.oneCell' = true) : (Value.int .i64 e :: cs).toArray.all (·.oneCell') = true := by
  refine all_oneCell_toArray fun v hv => ?_
  simp only [List.mem_cons] at hv
  rcases hv with rfl | hv
  · rfl
  · exact h v hv

set_option maxRecDepth 100000 in
set_option maxHeartbeats 4000000 in
theorem question_long (g f s : ByteArray) (w : World) (h : 210 < g.size ∨ 30 < s.size) :
    Calls Try.prog 30 #[.string g, .string f, .string s] w fun e w' => e = .returned (.agg (.int .i64 1 :: rest56).toArray) ∧ Below w.heap.size w w' := by
  have HT := fun (C : Array Value) (h : C.size = 57) => there_newG w C 66 57 h
  have hr := rest56_len
  have HO := rest56_one
  have HO' : Hid (∀ v ∈ rest56, v.oneCell' = true) := HO
  clear HO
  obtain ⟨R, hR⟩ : ∃ R, R = rest56 := ⟨_, rfl⟩
  have HB : ∀ {ops : Array Oper} {rest : List Oper} {o : Oper} {a : Act} {w : World} {Q : Exit → Act → World → Prop} (hgd : o.guard = none) (x : Operand) (ho : o.op = .build 66 #[(0, x)]) (e : Int) (hx : a.eval x = .int .i64 e)
    (h : wpList Try.prog ops Q rest (a.put o.dst (.agg (.int .i64 e :: R).toArray)) w), wpList Try.prog ops Q (o :: rest) a w := by
    intro _ _ _ _ _ _ hgd x ho e hx h
    rw [hR] at h
    exact build66e hgd x ho e hx h
  rw [← hR] at hr HO'
  rw [← hR]
  clear hR
  by_cases h1 : 210 < g.size
  · have h2 : (210 : Int) < (g.size : Int) := by omega
    go_enter Try.func30, Try.ntmps30
    go_wp2_with (first
      | (refine HB (by rfl) _ (by rfl) 1 (by rfl) ?_)
      | (refine storeT 66 57 Try.size66 (by rfl) _ _ (by rfl) w.heap.size (Value.int .i64 1 :: R).toArray (by rfl) (by rfl) (HT _ rfl) (size57 _ _ hr) (one57 _ _ HO'.out) ?_; intro w7 hb7 hz7 hk7 hr7))
    exact bodyPost_ret (resultT Try.results30 Try.size66 Try.row66 _ _ w.heap.size (Value.int .i64 1 :: R) rfl (by simpa using hr7) (by simp [hr])) rfl ⟨rfl, (below1 w _).trans hb7⟩
  · have h2 : ¬ (210 : Int) < (g.size : Int) := by omega
    have h3 : (30 : Int) < (s.size : Int) := by omega
    go_enter Try.func30, Try.ntmps30
    go_wp2_with (first
      | (refine HB (by rfl) _ (by rfl) 1 (by rfl) ?_)
      | (refine storeT 66 57 Try.size66 (by rfl) _ _ (by rfl) w.heap.size (Value.int .i64 1 :: R).toArray (by rfl) (by rfl) (HT _ rfl) (size57 _ _ hr) (one57 _ _ HO'.out) ?_; intro w7 hb7 hz7 hk7 hr7))
    exact bodyPost_ret (resultT Try.results30 Try.size66 Try.row66 _ _ w.heap.size (Value.int .i64 1 :: R) rfl (by simpa using hr7) (by simp [hr])) rfl ⟨rfl, (below1 w _).trans hb7⟩

end Go.Proofs.Ytkjnhhbibaimfaa
