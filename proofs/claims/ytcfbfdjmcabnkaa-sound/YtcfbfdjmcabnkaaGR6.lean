import Derived.Test.YtcfbfdjmcabnkaaGZ
import Derived.Test.YtcfbfdjmcabnkaaG12
import Derived.Test.YtcfbfdjmcabnkaaGR5
namespace Go.Proofs.Ytcfbfdjmcabnkaa
open Go.RowKit Fw
open Go.Deep (BT)
set_option linter.unusedVariables false

/-- an A among the ways of the first k nodes -/
def hasK (ns : List Nd) (k : Nat) : Bool := (ns.take k).any fun x => x.2.1 == 65
theorem hasK_zero (ns : List Nd) : hasK ns 0 = false := by simp [hasK]
theorem hasK_succ {ns : List Nd} {k : Nat} {x : Nd} (h : ns[k]? = some x) : hasK ns (k + 1) = (hasK ns k || x.2.1 == 65) := by
  unfold hasK
  rw [List.take_add_one, h, List.any_append]
  simp
theorem hasK_up {ns : List Nd} {k : Nat} (h : hasK ns k = true) : hasK ns ns.length = true := by
  unfold hasK at h ⊢
  rw [List.any_eq_true] at h ⊢
  obtain ⟨x, hx, hy⟩ := h
  exact ⟨x, by rw [List.take_length]; exact List.mem_of_mem_take hx, hy⟩
theorem hasK_anyA (ns : List Nd) : hasK ns ns.length = true ↔ anyA ns := by
  unfold hasK anyA
  rw [List.take_length, List.any_eq_true]
  simp

theorem Tn.drewN {w : World} {tb g cap : Nat} {ns : List Nd} (h : Tn w tb g cap ns) (n : Nat) : Tn (w.drewN n) tb g cap ns := h.below (below_drewN (Below.refl _ _) n)
theorem Tn.drew {w : World} {tb g cap : Nat} {ns : List Nd} (h : Tn w tb g cap ns) : Tn w.drew tb g cap ns := h.below (Below.refl _ _).drew

set_option maxRecDepth 100000 in
set_option maxHeartbeats 1000000 in
theorem hasAll_is (tb g cap : Nat) (ns : List Nd) (w : World) (hl : ns.length ≤ 1000) (HT : Hid (Tn w tb g cap ns)) :
    Calls Try.prog 41 #[.pointer (some ⟨tb, 0, none⟩)] w fun e w' => e = .returned (.bool (hasK ns ns.length)) ∧ Below w.heap.size w w' := by
  go_enter Try.func41, Try.ntmps41
  go_wp2_with fail
  go_loopw [3] (fun q wr => ∃ k : Nat, k ≤ ns.length ∧ q = .int .i64 k ∧ Hid (hasK ns k = false) ∧ Hid (Tn wr tb g cap ns) ∧ Below w.heap.size w wr) (fun q _ => ns.length - (intOf q).toNat)
  case atStart => exact ⟨0, by omega, rfl, hasK_zero ns, HT, Below.refl _ _⟩
  case round =>
    obtain ⟨k, hk, rfl, HF, HTr, hbr⟩ := hrel
    have c2 := HTr.out.c2
    by_cases hlt : k < ns.length
    · have hlt2 : (k : Int) < (ns.length : Int) := by omega
      obtain ⟨⟨sg, wy, li, ri, kk⟩, hx⟩ : ∃ x, ns[k]? = some x := ⟨_, List.getElem?_eq_getElem hlt⟩
      obtain ⟨_, _, _, _, n0, n1, n2, n3, n4⟩ := HTr.out.at hx
      have HX : Hid (hasK ns (k + 1) = (wy == 65)) := by show _ = _; rw [hasK_succ hx, HF.out]; rfl
      have k0 : (0 : Int) ≤ (k : Int) := by omega
      clear hx
      by_cases h65 : wy = 65
      · have HY : Hid (hasK ns ns.length = true) := hasK_up (k := k + 1) (by rw [HX.out, h65]; rfl)
        have h65' : ((wy : Int) == 65) = true := by rw [beq_iff_eq]; omega
        clear h65
        go_wp2_with fail
        go_ret
        exact ⟨by rw [HY.out]; rfl, hbr⟩
      · have h65' : ((wy : Int) == 65) = false := by rw [beq_eq_false_iff_ne]; omega
        have HY : Hid (hasK ns (k + 1) = false) := by show _ = _; rw [HX.out]; simpa using h65
        clear h65
        go_wp2_with fail
        go_roundw
        case rel => exact ⟨k + 1, by omega, by go_num, HY, HTr, hbr⟩
        case measure => simp [intOf]; omega
    · obtain rfl : k = ns.length := by omega
      have hlt2 : ¬ (ns.length : Int) < (ns.length : Int) := by omega
      go_wp2_with fail
      go_ret
      exact ⟨by rw [HF.out]; rfl, hbr⟩

theorem Try.size70 : (Try.prog.info? 70).map (·.size) = some 58 := by kernel_rfl
theorem Try.row70 : ∃ d, Try.prog.underlying 70 = some d ∧ d.isRow = true := ⟨_, Try.underlying70, rfl⟩
def rest57 : List Value := rest56 ++ [.int .i64 0]
theorem built81e (e : Int) : Try.prog.built 70 [(0, .int .i64 e)] = some (.int .i64 e :: rest57).toArray := by kernel_rfl
theorem built81 (c : Nat) (M : Nat → Nat → Bool) (K : Nat → ByteArray) (f : ByteArray) (B : Nat → Bool) (a b d e : Value) (x : Int) : Try.prog.built 70 [(1, .agg (cells52 c M K f B).toArray), (2, .agg #[a, b, d, e]), (3, .int .i64 x)] = some (.int .i64 0 :: (cells52 c M K f B ++ [a, b, d, e, .int .i64 x])).toArray := by kernel_rfl

theorem rest57_len : rest57.length = 57 := rfl
theorem rest57_one : ∀ v ∈ rest57, v.oneCell' = true := by
  intro v hv
  simp only [rest57, List.mem_append, List.mem_singleton] at hv
  rcases hv with hv | rfl
  · exact rest56_one v hv
  · rfl
theorem build81e {ops : Array Oper} {rest : List Oper} {o : Oper} {a : Act} {w : World} {Q : Exit → Act → World → Prop} (hgd : o.guard = none) (x : Operand) (ho : o.op = .build 70 #[(0, x)])
    (e : Int) (hx : a.eval x = .int .i64 e)
    (h : wpList Try.prog ops Q rest (a.put o.dst (.agg (.int .i64 e :: rest57).toArray)) w) : wpList Try.prog ops Q (o :: rest) a w := by
  have hv : ((#[(0, x)] : Array (Nat × Operand)).map fun (i, x) => (i, a.eval x)).toList = [(0, .int .i64 e)] := by simp [hx]
  refine wpList_build hgd 70 #[(0, x)] ho (by rw [hv, built81e]; rfl) ?_
  rw [hv, built81e]
  exact h
theorem build81f {ops : Array Oper} {rest : List Oper} {o : Oper} {a : Act} {w : World} {Q : Exit → Act → World → Prop} (hgd : o.guard = none) (x y z : Operand) (ho : o.op = .build 70 #[(1, x), (2, y), (3, z)])
    (C : List Value) (hC : ∃ c M K f B, C = cells52 c M K f B) (v1 v2 v3 v4 : Value) (n : Int) (hx : a.eval x = .agg C.toArray) (hy : a.eval y = .agg #[v1, v2, v3, v4]) (hz : a.eval z = .int .i64 n)
    (h : wpList Try.prog ops Q rest (a.put o.dst (.agg (.int .i64 0 :: (C ++ [v1, v2, v3, v4, .int .i64 n])).toArray)) w) : wpList Try.prog ops Q (o :: rest) a w := by
  obtain ⟨c, M, K, f, B, rfl⟩ := hC
  have hv : ((#[(1, x), (2, y), (3, z)] : Array (Nat × Operand)).map fun (i, x) => (i, a.eval x)).toList = [(1, .agg (cells52 c M K f B).toArray), (2, .agg #[v1, v2, v3, v4]), (3, .int .i64 n)] := by simp [hx, hy, hz]
  refine wpList_build hgd 70 #[(1, x), (2, y), (3, z)] ho (by rw [hv, built81]; rfl) ?_
  rw [hv, built81]
  exact h
theorem size58 (e : Int) (cs : List Value) (h : cs.length = 57) : (Value.int .i64 e :: cs).toArray.size = 58 := by simp [h]

set_option maxRecDepth 100000 in
set_option maxHeartbeats 4000000 in
theorem claim_err (g f s : ByteArray) (n : Int) (w : World) (hf : f.size ≤ 9223372036854775807) (E : Nat) (hE : flt g f s = E) (h0 : E ≠ 0) :
    Calls Try.prog 32 #[.string g, .string f, .string s, .int .i64 n] w fun e w' => e = .returned (.agg (.int .i64 (E : Int) :: rest57).toArray) ∧ Below w.heap.size w w' := by
  have HQ := fun W => question_err g f s W hf (by rw [hE]; exact h0)
  rw [hE] at HQ
  have hne : ((E : Int) != 0) = true := by rw [bne_iff_ne]; omega
  have hr := rest56_len
  have HO' : Hid (∀ v ∈ rest56, v.oneCell' = true) := rest56_one
  have hr7 := rest57_len
  have HO7 : Hid (∀ v ∈ rest57, v.oneCell' = true) := rest57_one
  obtain ⟨R, hR⟩ : ∃ R, R = rest56 := ⟨_, rfl⟩
  obtain ⟨R7, hR7⟩ : ∃ R7, R7 = rest57 := ⟨_, rfl⟩
  have HB : ∀ {ops : Array Oper} {rest : List Oper} {o : Oper} {a : Act} {w : World} {Q : Exit → Act → World → Prop} (hgd : o.guard = none) (x : Operand) (ho : o.op = .build 70 #[(0, x)]) (e : Int) (hx : a.eval x = .int .i64 e)
    (h : wpList Try.prog ops Q rest (a.put o.dst (.agg (.int .i64 e :: R7).toArray)) w), wpList Try.prog ops Q (o :: rest) a w := by
    intro _ _ _ _ _ _ hgd x ho e hx h
    rw [hR7] at h
    exact build81e hgd x ho e hx h
  rw [← hR] at hr HO' HQ
  rw [← hR7] at hr7 HO7
  rw [← hR7]
  clear hR hR7 hE
  have HT0 := fun (C : Array Value) (h : C.size = 58) => there_newG w C 70 58 h
  go_enter Try.func32, Try.ntmps32
  go_wp2_with (first
    | (go_at_call 27; refine (HQ _).mono ?_; rintro e w1 ⟨rfl, hb1⟩
       have hb01 : Below w.heap.size w w1 := Below.past hb1
       have HT1 : Hid (w1.there w.heap.size 0 58) := there_below hb1 (by simp) (HT0 _ rfl))
    | (refine storeT 63 57 Try.size63 (by rfl) _ _ (by rfl) w1.heap.size (Value.int .i64 (E : Int) :: R).toArray (by rfl) (by rfl) (there_newG _ _ _ 57 rfl) (size57 _ _ hr) (one57 _ _ HO'.out) ?_; intro w2 hb2 hz2 hk2 hr2
       have c0 : w2.cell? ⟨w1.heap.size, 0, none⟩ = some (.int .i64 (E : Int)) := hr2 0 _ rfl
       have hbe : Below w.heap.size w w2 := hb01.trans (((below1 w1 _).trans hb2).mono hb01.size)
       have HT2 : Hid (w2.there w.heap.size 0 58) := there_below ((below1 w1 _).trans hb2) (Nat.lt_of_lt_of_le (by simp) hb1.size) HT1.out
       clear hr2)
    | (refine HB (by rfl) _ (by rfl) (E : Int) (by rfl) ?_)
    | (refine storeT 70 58 Try.size70 (by rfl) _ _ (by rfl) w.heap.size (Value.int .i64 (E : Int) :: R7).toArray (by rfl) (by rfl) HT2.out (size58 _ _ hr7) (one57 _ _ HO7.out) ?_; intro w7 hb7 hz7 hk7 hr7b))
  exact bodyPost_ret (resultT Try.results32 Try.size70 Try.row70 _ _ w.heap.size (Value.int .i64 (E : Int) :: R7) rfl (by simpa using hr7b) (by simp [hr7])) rfl ⟨rfl, hbe.trans hb7⟩

end Go.Proofs.Ytcfbfdjmcabnkaa

namespace Go.Proofs.Ytcfbfdjmcabnkaa
open Go.RowKit Fw
open Go.Deep (BT)
set_option linter.unusedVariables false

/-- from the question's box on: what loadClaim meets -/
structure Qx (g f s : ByteArray) (w : World) (Q gg cap ri : Nat) (ns : List Nd) : Prop where
  lt : Q < w.heap.size
  wr : w.rangeAt Q 1 (cells52 (gphOf g).n (gphOf g).e (mrk g (run g 6 0).2.2) f (begP (gphOf g) (fsOf f)))
  c55 : w.cell? ⟨Q, 55, none⟩ = some (.slice (some ⟨gg, 0, none⟩) ns.length cap)
  c56 : w.cell? ⟨Q, 56, none⟩ = some (.int .i64 (ri : Int))
  nr : Nr w gg ns
theorem Qx.tno {g f s : ByteArray} {w : World} {Q gg cap ri : Nat} {ns : List Nd} (h : Qx g f s w Q gg cap ri ns) : Tno w Q 53 gg cap ns := ⟨h.lt, h.nr.lt, h.c55, h.nr.c⟩
theorem Qx.below {g f s : ByteArray} {w w' : World} {Q gg cap ri : Nat} {ns : List Nd} (h : Qx g f s w Q gg cap ri ns) (hb : Below w.heap.size w w') : Qx g f s w' Q gg cap ri ns :=
  ⟨Nat.lt_of_lt_of_le h.lt hb.size, fun j v hv => (hb.cell (p := ⟨Q, 1 + j, none⟩) h.lt).trans (h.wr j v hv), (hb.cell (p := ⟨Q, 55, none⟩) h.lt).trans h.c55, (hb.cell (p := ⟨Q, 56, none⟩) h.lt).trans h.c56, h.nr.below hb h.nr.lt⟩
theorem Qx.cn {g f s : ByteArray} {w : World} {Q gg cap ri : Nat} {ns : List Nd} (h : Qx g f s w Q gg cap ri ns) : w.cell? ⟨Q, 3, none⟩ = some (.int .i64 ((gphOf g).n : Int)) := h.wr 2 _ rfl

theorem good_len {g f s : ByteArray} (h0 : flt g f s = 0) : good (ptAll s).2.2 → (txt (ptAll s).2.2).length ≤ 60 := by
  obtain ⟨hg, hs, hck, hfo, hfr⟩ := flt_zero h0
  intro _
  have := (frm_zero hfr).1
  have e : (txt (ptAll s).2.2).length = s.data.toList.length := by rw [this]; rfl
  rw [e, Array.length_toList]
  have : s.data.size = s.size := rfl
  omega

set_option maxRecDepth 100000 in
set_option maxHeartbeats 4000000 in
theorem claim_arg (g f s : ByteArray) (n : Int) (w : World) (hf : f.size ≤ 9223372036854775807) (h0 : flt g f s = 0) (hn : n < 0 ∨ (¬ n < 0 ∧ ((gphOf g).n : Int) ≤ n)) :
    Calls Try.prog 32 #[.string g, .string f, .string s, .int .i64 n] w fun e w' => e = .returned (.agg (.int .i64 7 :: rest57).toArray) ∧ Below w.heap.size w w' := by
  obtain ⟨hg, hs, hck, hfo, hfr⟩ := flt_zero h0
  have HQ := fun W => question_ok g f s W hg hs hf hck hfo hfr
  have hr7 := rest57_len
  have HO7 : Hid (∀ v ∈ rest57, v.oneCell' = true) := rest57_one
  obtain ⟨R7, hR7⟩ : ∃ R7, R7 = rest57 := ⟨_, rfl⟩
  have HB : ∀ {ops : Array Oper} {rest : List Oper} {o : Oper} {a : Act} {w : World} {Q : Exit → Act → World → Prop} (hgd : o.guard = none) (x : Operand) (ho : o.op = .build 70 #[(0, x)]) (e : Int) (hx : a.eval x = .int .i64 e)
    (h : wpList Try.prog ops Q rest (a.put o.dst (.agg (.int .i64 e :: R7).toArray)) w), wpList Try.prog ops Q (o :: rest) a w := by
    intro _ _ _ _ _ _ hgd x ho e hx h
    rw [hR7] at h
    exact build81e hgd x ho e hx h
  rw [← hR7] at hr7 HO7
  rw [← hR7]
  clear hR7
  have HT0 := fun (C : Array Value) (h : C.size = 58) => there_newG w C 70 58 h
  clear h0 hfo hfr hck
  rcases hn with hn | ⟨hn1, hn⟩
  all_goals
   go_enter Try.func32, Try.ntmps32
   go_wp2_with (first
    | (go_at_call 27; refine (HQ _).mono ?_; rintro e w1 ⟨hb1, y, gg, cap, ri, ns, hy, rfl, hnr, hclo, hnl, hrep, hgood⟩
       obtain ⟨C3, hC3⟩ : ∃ C3, C3 = Value.int .i64 0 :: (cells52 (gphOf g).n (gphOf g).e (mrk g (run g 6 0).2.2) f (begP (gphOf g) (fsOf f)) ++ [.int .i64 0, y, .slice (some ⟨gg, 0, none⟩) ns.length cap, .int .i64 (ri : Int)]) := ⟨_, rfl⟩
       rw [← hC3]
       have hC3l : C3.length = 57 := by rw [hC3]; simp [cells52_len]
       have hC3s : C3.toArray.size = 57 := by simp [hC3l]
       have hC3o : C3.toArray.all (·.oneCell') = true := by
         refine all_oneCell_toArray fun v hv => ?_
         rw [hC3] at hv
         simp only [List.mem_cons, List.mem_append, List.not_mem_nil, or_false] at hv
         rcases hv with rfl | hv | rfl | rfl | rfl | rfl
         · rfl
         · exact (Array.all_eq_true_iff_forall_mem.1 (cells52_one _ _ _ _ _)) v (by simpa using hv)
         · rfl
         · exact hy
         · rfl
         · rfl
       have HC3 : Hid (C3 = Value.int .i64 0 :: (cells52 (gphOf g).n (gphOf g).e (mrk g (run g 6 0).2.2) f (begP (gphOf g) (fsOf f)) ++ [.int .i64 0, y, .slice (some ⟨gg, 0, none⟩) ns.length cap, .int .i64 (ri : Int)])) := hC3
       have HN1 : Hid (Nr w1 gg ns) := hnr
       have HRP : Hid (Rep ns (ptAll s).2.2 ri) := hrep
       have HGD : Hid (good (ptAll s).2.2) := hgood
       have hb01 : Below w.heap.size w w1 := Below.past hb1
       have HT1 : Hid (w1.there w.heap.size 0 58) := there_below hb1 (by simp) (HT0 _ rfl)
       clear hC3 hnr hclo hrep hgood hnl)
    | (refine storeT 63 57 Try.size63 (by rfl) _ _ (by rfl) w1.heap.size C3.toArray (by rfl) (by rfl) (there_newG _ _ _ 57 rfl) hC3s hC3o ?_; intro w2 hb2 hz2 hk2 hr2
       have hr2' : w2.rangeAt w1.heap.size 0 C3 := by simpa using hr2
       have c0 : w2.cell? ⟨w1.heap.size, 0, none⟩ = some (.int .i64 0) := hr2' 0 _ (by rw [HC3.out]; rfl)
       have hb12 : Below w1.heap.size w1 w2 := (below1 w1 _).trans hb2
       have hbe : Below w.heap.size w w2 := hb01.trans (hb12.mono hb01.size)
       have hs12 : w1.heap.size < w2.heap.size := by rw [hz2]; simp
       have HT2 : Hid (w2.there w.heap.size 0 58) := there_below hb12 (Nat.lt_of_lt_of_le (by simp) hb1.size) HT1.out
       have c55 : w2.cell? ⟨w1.heap.size, 55, none⟩ = some (.slice (some ⟨gg, 0, none⟩) ns.length cap) := hr2' 55 _ (by
         rw [HC3.out, List.getElem?_cons_succ, List.getElem?_append_right (by rw [cells52_len]; omega), cells52_len]; rfl)
       have c56 : w2.cell? ⟨w1.heap.size, 56, none⟩ = some (.int .i64 (ri : Int)) := hr2' 56 _ (by
         rw [HC3.out, List.getElem?_cons_succ, List.getElem?_append_right (by rw [cells52_len]; omega), cells52_len]; rfl)
       have HQX : Hid (Qx g f s w2 w1.heap.size gg cap ri ns) := ⟨hs12, rangeAt_part (xs := [.int .i64 0]) hr2' (by rw [HC3.out]; rfl) rfl, c55, c56, HN1.out.below hb12 HN1.out.lt⟩
       have cn := HQX.out.cn
       have hlt0 : w.heap.size < w1.heap.size := by have := hb1.size; simp at this; omega
       clear hr2 hr2' c55 c56 hb2 hz2 hk2)
    | (refine HB (by rfl) _ (by rfl) 7 (by rfl) ?_)
    | (refine storeT 70 58 Try.size70 (by rfl) _ _ (by rfl) w.heap.size (Value.int .i64 7 :: R7).toArray (by rfl) (by rfl) HT2.out (size58 _ _ hr7) (one57 _ _ HO7.out) ?_; intro w7 hb7 hz7 hk7 hr7b))
   exact bodyPost_ret (resultT Try.results32 Try.size70 Try.row70 _ _ w.heap.size (Value.int .i64 7 :: R7) rfl (by simpa using hr7b) (by simp [hr7])) rfl ⟨rfl, hbe.trans hb7⟩

set_option maxRecDepth 100000 in
set_option maxHeartbeats 4000000 in
theorem claim_A (g f s : ByteArray) (n : Int) (w : World) (hf : f.size ≤ 9223372036854775807) (h0 : flt g f s = 0) (hn1 : ¬ n < 0) (hn2 : ¬ ((gphOf g).n : Int) ≤ n) (hA : txtA (push (ptAll s).2.2 false)) :
    Calls Try.prog 32 #[.string g, .string f, .string s, .int .i64 n] w fun e w' => e = .returned (.agg (.int .i64 8 :: rest57).toArray) ∧ Below w.heap.size w w' := by
  have HSZ : Hid (good (ptAll s).2.2 → (txt (ptAll s).2.2).length ≤ 60) := good_len h0
  have HTA : Hid (txtA (push (ptAll s).2.2 false)) := hA
  clear hA
  obtain ⟨hg, hs, hck, hfo, hfr⟩ := flt_zero h0
  have HQ := fun W => question_ok g f s W hg hs hf hck hfo hfr
  have hr7 := rest57_len
  have HO7 : Hid (∀ v ∈ rest57, v.oneCell' = true) := rest57_one
  obtain ⟨R7, hR7⟩ : ∃ R7, R7 = rest57 := ⟨_, rfl⟩
  have HB : ∀ {ops : Array Oper} {rest : List Oper} {o : Oper} {a : Act} {w : World} {Q : Exit → Act → World → Prop} (hgd : o.guard = none) (x : Operand) (ho : o.op = .build 70 #[(0, x)]) (e : Int) (hx : a.eval x = .int .i64 e)
    (h : wpList Try.prog ops Q rest (a.put o.dst (.agg (.int .i64 e :: R7).toArray)) w), wpList Try.prog ops Q (o :: rest) a w := by
    intro _ _ _ _ _ _ hgd x ho e hx h
    rw [hR7] at h
    exact build81e hgd x ho e hx h
  rw [← hR7] at hr7 HO7
  rw [← hR7]
  clear hR7
  have HT0 := fun (C : Array Value) (h : C.size = 58) => there_newG w C 70 58 h
  clear h0 hfo hfr hck
  go_enter Try.func32, Try.ntmps32
  go_wp2_with (first
    | (go_at_call 27; refine (HQ _).mono ?_; rintro e w1 ⟨hb1, y, gg, cap, ri, ns, hy, rfl, hnr, hclo, hnl, hrep, hgood⟩
       obtain ⟨C3, hC3⟩ : ∃ C3, C3 = Value.int .i64 0 :: (cells52 (gphOf g).n (gphOf g).e (mrk g (run g 6 0).2.2) f (begP (gphOf g) (fsOf f)) ++ [.int .i64 0, y, .slice (some ⟨gg, 0, none⟩) ns.length cap, .int .i64 (ri : Int)]) := ⟨_, rfl⟩
       rw [← hC3]
       have hC3l : C3.length = 57 := by rw [hC3]; simp [cells52_len]
       have hC3s : C3.toArray.size = 57 := by simp [hC3l]
       have hC3o : C3.toArray.all (·.oneCell') = true := by
         refine all_oneCell_toArray fun v hv => ?_
         rw [hC3] at hv
         simp only [List.mem_cons, List.mem_append, List.not_mem_nil, or_false] at hv
         rcases hv with rfl | hv | rfl | rfl | rfl | rfl
         · rfl
         · exact (Array.all_eq_true_iff_forall_mem.1 (cells52_one _ _ _ _ _)) v (by simpa using hv)
         · rfl
         · exact hy
         · rfl
         · rfl
       have HC3 : Hid (C3 = Value.int .i64 0 :: (cells52 (gphOf g).n (gphOf g).e (mrk g (run g 6 0).2.2) f (begP (gphOf g) (fsOf f)) ++ [.int .i64 0, y, .slice (some ⟨gg, 0, none⟩) ns.length cap, .int .i64 (ri : Int)])) := hC3
       have HN1 : Hid (Nr w1 gg ns) := hnr
       have HRP : Hid (Rep ns (ptAll s).2.2 ri) := hrep
       have HGD : Hid (good (ptAll s).2.2) := hgood
       have hb01 : Below w.heap.size w w1 := Below.past hb1
       have HT1 : Hid (w1.there w.heap.size 0 58) := there_below hb1 (by simp) (HT0 _ rfl)
       clear hC3 hnr hclo hrep hgood hnl)
    | (refine storeT 63 57 Try.size63 (by rfl) _ _ (by rfl) w1.heap.size C3.toArray (by rfl) (by rfl) (there_newG _ _ _ 57 rfl) hC3s hC3o ?_; intro w2 hb2 hz2 hk2 hr2
       have hr2' : w2.rangeAt w1.heap.size 0 C3 := by simpa using hr2
       have c0 : w2.cell? ⟨w1.heap.size, 0, none⟩ = some (.int .i64 0) := hr2' 0 _ (by rw [HC3.out]; rfl)
       have hb12 : Below w1.heap.size w1 w2 := (below1 w1 _).trans hb2
       have hbe : Below w.heap.size w w2 := hb01.trans (hb12.mono hb01.size)
       have hs12 : w1.heap.size < w2.heap.size := by rw [hz2]; simp
       have HT2 : Hid (w2.there w.heap.size 0 58) := there_below hb12 (Nat.lt_of_lt_of_le (by simp) hb1.size) HT1.out
       have c55 : w2.cell? ⟨w1.heap.size, 55, none⟩ = some (.slice (some ⟨gg, 0, none⟩) ns.length cap) := hr2' 55 _ (by
         rw [HC3.out, List.getElem?_cons_succ, List.getElem?_append_right (by rw [cells52_len]; omega), cells52_len]; rfl)
       have c56 : w2.cell? ⟨w1.heap.size, 56, none⟩ = some (.int .i64 (ri : Int)) := hr2' 56 _ (by
         rw [HC3.out, List.getElem?_cons_succ, List.getElem?_append_right (by rw [cells52_len]; omega), cells52_len]; rfl)
       have HQX : Hid (Qx g f s w2 w1.heap.size gg cap ri ns) := ⟨hs12, rangeAt_part (xs := [.int .i64 0]) hr2' (by rw [HC3.out]; rfl) rfl, c55, c56, HN1.out.below hb12 HN1.out.lt⟩
       have cn := HQX.out.cn
       have hlt0 : w.heap.size < w1.heap.size := by have := hb1.size; simp at this; omega
       clear hr2 hr2' c55 c56 hb2 hz2 hk2)
    | (go_at_call 30; refine (pushedPo (ptAll s).2.2 HGD.out ri w1.heap.size 53 gg cap ns _ (HSZ.out HGD.out) (show Hid _ from HQX.out.tno) HRP HQX.out.c56).mono ?_; rintro e w3 ⟨hb3, v, ms, kk, rfl, hown, hrep, hml, hmA, hmC⟩
       obtain ⟨a2, cap2, rfl⟩ : ∃ a cap, v = .slice a ms.length cap := by
         rcases hown.2 with ⟨h1, h2⟩ | ⟨g, cap, cur, h1, _⟩
         · exact ⟨none, 0, by rw [h1, h2]⟩
         · exact ⟨_, _, h1⟩
       obtain ⟨g2, rfl, _, hg2, htn⟩ := tn_new hown (by have := (hrep.lt (pushT_is _ HGD.out false).2.1).1; omega)
       have HTN : Hid (∀ x y r, Tn (w3.alloc (.cells #[x, y, .slice (some ⟨g2, 0, none⟩) ms.length cap2, r] 61)) w3.heap.size g2 cap2 ms) := htn
       have hml2 : ms.length ≤ 1000 := by have := push_len _ HGD.out false; have := HSZ.out HGD.out; omega
       have HHA : Hid (hasK ms ms.length = true) := (hasK_anyA ms).2 (hmA.2 HTA.out)
       have hbe3 : Below w.heap.size w w3 := hbe.trans (hb3.mono hbe.size)
       have HT3 : Hid (w3.there w.heap.size 0 58) := there_below hb3 (by omega) HT2.out
       have hlt3 : w.heap.size < w3.heap.size := by have := hb3.size; omega
       clear hown hrep hml hmA htn)
    | (go_at_call 41; refine (hasAll_is w3.heap.size g2 cap2 ms _ hml2 (show Hid _ from HTN.out _ _ _)).mono ?_; rintro e w4 ⟨rfl, hb4⟩
       rw [HHA.out]
       have hbe4 : Below w.heap.size w w4 := (hbe3.alloc hbe3.size _).trans (hb4.mono (by simp; omega))
       have HT4 : Hid (w4.there w.heap.size 0 58) := there_below hb4 (by simp; omega) (World.there_alloc HT3.out _))
    | (refine HB (by rfl) _ (by rfl) 8 (by rfl) ?_)
    | (refine storeT 70 58 Try.size70 (by rfl) _ _ (by rfl) w.heap.size (Value.int .i64 8 :: R7).toArray (by rfl) (by rfl) HT4.out (size58 _ _ hr7) (one57 _ _ HO7.out) ?_; intro w7 hb7 hz7 hk7 hr7b))
  exact bodyPost_ret (resultT Try.results32 Try.size70 Try.row70 _ _ w.heap.size (Value.int .i64 8 :: R7) rfl (by simpa using hr7b) (by simp [hr7])) rfl ⟨rfl, hbe4.trans hb7⟩

end Go.Proofs.Ytcfbfdjmcabnkaa

namespace Go.Proofs.Ytcfbfdjmcabnkaa
open Go.RowKit Fw
open Go.Deep (BT)
set_option linter.unusedVariables false

theorem loadO {ops : Array Oper} {rest : List Oper} {op : Oper} {a : Act} {w : World} {Q : Exit → Act → World → Prop} (T n : Nat) (hT : (Try.prog.info? T).map (·.size) = some n) (hrow : ∃ d, Try.prog.underlying T = some d ∧ d.isRow = true) (hgd : op.guard = none) (x : Operand) (ho : op.op = .load T x)
    (b o : Nat) (hx : a.eval x = .pointer (some ⟨b, o, none⟩)) (cs : List Value) (hc : w.rangeAt b o cs) (hl : cs.length = n)
    (h : wpList Try.prog ops Q rest (a.put op.dst (.agg cs.toArray)) w) : wpList Try.prog ops Q (op :: rest) a w := by
  obtain ⟨d, hu, hd⟩ := hrow
  exact wpList_load_mid hgd T x ho b o hx cs d hc hu hd (by rw [hl]; exact hT) h
def tailC (g2 cap2 kk m : Nat) (n : Int) : List Value := [.int .i64 0, .int .i64 0, .slice (some ⟨g2, 0, none⟩) m cap2, .int .i64 (kk : Int), .int .i64 n]
theorem c58_size (C2 : List Value) (h : C2.length = 52) (g2 cap2 kk m : Nat) (n : Int) : (Value.int .i64 0 :: (C2 ++ tailC g2 cap2 kk m n)).toArray.size = 58 := by simp [tailC, h]
theorem c58_one (C2 : List Value) (h : C2.toArray.all (·.oneCell') = true) (g2 cap2 kk m : Nat) (n : Int) : (Value.int .i64 0 :: (C2 ++ tailC g2 cap2 kk m n)).toArray.all (·.oneCell') = true := by
  refine all_oneCell_toArray fun v hv => ?_
  simp only [tailC, List.mem_cons, List.mem_append, List.not_mem_nil, or_false] at hv
  rcases hv with rfl | hv | rfl | rfl | rfl | rfl | rfl
  · rfl
  · exact (Array.all_eq_true_iff_forall_mem.1 h) v (by simpa using hv)
  · rfl
  · rfl
  · rfl
  · rfl
  · rfl

/-- what loading a good claim gives -/
def ClOk (g f s : ByteArray) (n : Int) (w : World) (e : Ending) (w' : World) : Prop := Below w.heap.size w w' ∧ ∃ (g2 cap2 kk : Nat) (ms : List Nd),
  e = .returned (.agg (.int .i64 0 :: (cells52 (gphOf g).n (gphOf g).e (mrk g (run g 6 0).2.2) f (begP (gphOf g) (fsOf f)) ++ [.int .i64 0, .int .i64 0, .slice (some ⟨g2, 0, none⟩) ms.length cap2, .int .i64 (kk : Int), .int .i64 n])).toArray) ∧
  Nr w' g2 ms ∧ Rep ms (pushT (ptAll s).2.2 false) kk ∧ good (ptAll s).2.2 ∧ Clo ms ∧ ms.length ≤ 1000

set_option maxRecDepth 100000 in
set_option maxHeartbeats 4000000 in
theorem claim_yes (g f s : ByteArray) (n : Int) (w : World) (hf : f.size ≤ 9223372036854775807) (h0 : flt g f s = 0) (hn1 : ¬ n < 0) (hn2 : ¬ ((gphOf g).n : Int) ≤ n) (hA : ¬ txtA (push (ptAll s).2.2 false)) :
    Calls Try.prog 32 #[.string g, .string f, .string s, .int .i64 n] w fun e w' => ClOk g f s n w e w' := by
  have HSZ : Hid (good (ptAll s).2.2 → (txt (ptAll s).2.2).length ≤ 60) := good_len h0
  have HTA : Hid (¬ txtA (push (ptAll s).2.2 false)) := hA
  clear hA
  obtain ⟨C2, hC2⟩ : ∃ C2, C2 = cells52 (gphOf g).n (gphOf g).e (mrk g (run g 6 0).2.2) f (begP (gphOf g) (fsOf f)) := ⟨_, rfl⟩
  have HC2 : Hid (∃ c M K f B, C2 = cells52 c M K f B) := ⟨_, _, _, _, _, hC2⟩
  have hC2l : C2.length = 52 := by rw [hC2]; exact cells52_len _ _ _ _ _
  have HC2o : Hid (C2.toArray.all (·.oneCell') = true) := by rw [hC2]; exact cells52_one _ _ _ _ _
  have HC2E : Hid (C2 = cells52 (gphOf g).n (gphOf g).e (mrk g (run g 6 0).2.2) f (begP (gphOf g) (fsOf f))) := hC2
  clear hC2
  obtain ⟨hg, hs, hck, hfo, hfr⟩ := flt_zero h0
  have HQ := fun W => question_ok g f s W hg hs hf hck hfo hfr
  have hr7 := rest57_len
  have HO7 : Hid (∀ v ∈ rest57, v.oneCell' = true) := rest57_one
  obtain ⟨R7, hR7⟩ : ∃ R7, R7 = rest57 := ⟨_, rfl⟩
  have HB : ∀ {ops : Array Oper} {rest : List Oper} {o : Oper} {a : Act} {w : World} {Q : Exit → Act → World → Prop} (hgd : o.guard = none) (x : Operand) (ho : o.op = .build 70 #[(0, x)]) (e : Int) (hx : a.eval x = .int .i64 e)
    (h : wpList Try.prog ops Q rest (a.put o.dst (.agg (.int .i64 e :: R7).toArray)) w), wpList Try.prog ops Q (o :: rest) a w := by
    intro _ _ _ _ _ _ hgd x ho e hx h
    rw [hR7] at h
    exact build81e hgd x ho e hx h
  rw [← hR7] at hr7 HO7
  clear hR7
  have HT0 := fun (C : Array Value) (h : C.size = 58) => there_newG w C 70 58 h
  clear h0 hfo hfr hck
  go_enter Try.func32, Try.ntmps32
  go_wp2_with (first
    | (go_at_call 27; refine (HQ _).mono ?_; rintro e w1 ⟨hb1, y, gg, cap, ri, ns, hy, rfl, hnr, hclo, hnl, hrep, hgood⟩
       obtain ⟨C3, hC3⟩ : ∃ C3, C3 = Value.int .i64 0 :: (cells52 (gphOf g).n (gphOf g).e (mrk g (run g 6 0).2.2) f (begP (gphOf g) (fsOf f)) ++ [.int .i64 0, y, .slice (some ⟨gg, 0, none⟩) ns.length cap, .int .i64 (ri : Int)]) := ⟨_, rfl⟩
       rw [← hC3]
       have hC3l : C3.length = 57 := by rw [hC3]; simp [cells52_len]
       have hC3s : C3.toArray.size = 57 := by simp [hC3l]
       have hC3o : C3.toArray.all (·.oneCell') = true := by
         refine all_oneCell_toArray fun v hv => ?_
         rw [hC3] at hv
         simp only [List.mem_cons, List.mem_append, List.not_mem_nil, or_false] at hv
         rcases hv with rfl | hv | rfl | rfl | rfl | rfl
         · rfl
         · exact (Array.all_eq_true_iff_forall_mem.1 (cells52_one _ _ _ _ _)) v (by simpa using hv)
         · rfl
         · exact hy
         · rfl
         · rfl
       have HC3 : Hid (C3 = Value.int .i64 0 :: (cells52 (gphOf g).n (gphOf g).e (mrk g (run g 6 0).2.2) f (begP (gphOf g) (fsOf f)) ++ [.int .i64 0, y, .slice (some ⟨gg, 0, none⟩) ns.length cap, .int .i64 (ri : Int)])) := hC3
       have HN1 : Hid (Nr w1 gg ns) := hnr
       have HRP : Hid (Rep ns (ptAll s).2.2 ri) := hrep
       have HGD : Hid (good (ptAll s).2.2) := hgood
       have hb01 : Below w.heap.size w w1 := Below.past hb1
       have HT1 : Hid (w1.there w.heap.size 0 58) := there_below hb1 (by simp) (HT0 _ rfl)
       have HCLO : Hid (Clo ns) := hclo
       clear hC3 hnr hclo hrep hgood hnl)
    | (refine storeT 63 57 Try.size63 (by rfl) _ _ (by rfl) w1.heap.size C3.toArray (by rfl) (by rfl) (there_newG _ _ _ 57 rfl) hC3s hC3o ?_; intro w2 hb2 hz2 hk2 hr2
       have hr2' : w2.rangeAt w1.heap.size 0 C3 := by simpa using hr2
       have c0 : w2.cell? ⟨w1.heap.size, 0, none⟩ = some (.int .i64 0) := hr2' 0 _ (by rw [HC3.out]; rfl)
       have hb12 : Below w1.heap.size w1 w2 := (below1 w1 _).trans hb2
       have hbe : Below w.heap.size w w2 := hb01.trans (hb12.mono hb01.size)
       have hs12 : w1.heap.size < w2.heap.size := by rw [hz2]; simp
       have HT2 : Hid (w2.there w.heap.size 0 58) := there_below hb12 (Nat.lt_of_lt_of_le (by simp) hb1.size) HT1.out
       have c55 : w2.cell? ⟨w1.heap.size, 55, none⟩ = some (.slice (some ⟨gg, 0, none⟩) ns.length cap) := hr2' 55 _ (by
         rw [HC3.out, List.getElem?_cons_succ, List.getElem?_append_right (by rw [cells52_len]; omega), cells52_len]; rfl)
       have c56 : w2.cell? ⟨w1.heap.size, 56, none⟩ = some (.int .i64 (ri : Int)) := hr2' 56 _ (by
         rw [HC3.out, List.getElem?_cons_succ, List.getElem?_append_right (by rw [cells52_len]; omega), cells52_len]; rfl)
       have HQX : Hid (Qx g f s w2 w1.heap.size gg cap ri ns) := ⟨hs12, rangeAt_part (xs := [.int .i64 0]) hr2' (by rw [HC3.out]; rfl) rfl, c55, c56, HN1.out.below hb12 HN1.out.lt⟩
       have cn := HQX.out.cn
       have hlt0 : w.heap.size < w1.heap.size := by have := hb1.size; simp at this; omega
       clear hr2 hr2' c55 c56 hb2 hz2 hk2)
    | (go_at_call 30; refine (pushedPo (ptAll s).2.2 HGD.out ri w1.heap.size 53 gg cap ns _ (HSZ.out HGD.out) (show Hid _ from HQX.out.tno) HRP HQX.out.c56).mono ?_; rintro e w3 ⟨hb3, v, ms, kk, rfl, hown, hrep, hml, hmA, hmC⟩
       have HCM : Hid (Clo ms) := hmC HCLO.out
       obtain ⟨a2, cap2, rfl⟩ : ∃ a cap, v = .slice a ms.length cap := by
         rcases hown.2 with ⟨h1, h2⟩ | ⟨g, cap, cur, h1, _⟩
         · exact ⟨none, 0, by rw [h1, h2]⟩
         · exact ⟨_, _, h1⟩
       obtain ⟨g2, rfl, _, hg2, htn⟩ := tn_new hown (by have := (hrep.lt (pushT_is _ HGD.out false).2.1).1; omega)
       have HTN : Hid (∀ x y r, Tn (w3.alloc (.cells #[x, y, .slice (some ⟨g2, 0, none⟩) ms.length cap2, r] 61)) w3.heap.size g2 cap2 ms) := htn
       have hml2 : ms.length ≤ 1000 := by have := push_len _ HGD.out false; have := HSZ.out HGD.out; omega
       have HHA : Hid (hasK ms ms.length = false) := by show _ = _; rw [← Bool.not_eq_true]; intro h; exact HTA.out (hmA.1 ((hasK_anyA ms).1 h))
       have hg2w : g2 ≠ w.heap.size := by have := (hown.lt g2 rfl).1; omega
       have HRM : Hid (Rep ms (pushT (ptAll s).2.2 false) kk) := hrep
       have hbe3 : Below w.heap.size w w3 := hbe.trans (hb3.mono hbe.size)
       have HT3 : Hid (w3.there w.heap.size 0 58) := there_below hb3 (by omega) HT2.out
       have hlt3 : w.heap.size < w3.heap.size := by have := hb3.size; omega
       clear hown hrep hml hmA htn hmC)
    | (go_at_call 41; refine (hasAll_is w3.heap.size g2 cap2 ms _ hml2 (show Hid _ from HTN.out _ _ _)).mono ?_; rintro e w4 ⟨rfl, hb4⟩
       rw [HHA.out]
       have hbe4 : Below w.heap.size w w4 := (hbe3.alloc hbe3.size _).trans (hb4.mono (by simp; omega))
       have HT4 : Hid (w4.there w.heap.size 0 58) := there_below hb4 (by simp; omega) (World.there_alloc HT3.out _)
       have HQ4 : Hid (w4.rangeAt w1.heap.size 1 C2) := by show World.rangeAt _ _ _ _; rw [HC2E.out]; exact (((HQX.out.below hb3).below ((Below.refl _ _).alloc (Nat.le_refl _) _)).below hb4).wr
       have HN4 : Hid (Nr w4 g2 ms) := ⟨Nat.lt_of_lt_of_le (by simp; omega) hb4.size, fun i x hx j u hu => (hb4.cell (p := ⟨g2, i * 5 + j, none⟩) (by simp; omega)).trans ((HTN.out _ _ _).cs i x hx j u hu)⟩
       have t0 : w4.cell? ⟨w3.heap.size, 0, none⟩ = some (.int .i64 0) := by rw [hb4.cell (p := ⟨w3.heap.size, 0, none⟩) (by simp)]; simp
       have t1 : w4.cell? ⟨w3.heap.size, 1, none⟩ = some (.int .i64 0) := by rw [hb4.cell (p := ⟨w3.heap.size, 1, none⟩) (by simp)]; simp
       have t2 : w4.cell? ⟨w3.heap.size, 2, none⟩ = some (.slice (some ⟨g2, 0, none⟩) ms.length cap2) := by rw [hb4.cell (p := ⟨w3.heap.size, 2, none⟩) (by simp)]; simp
       have t3 : w4.cell? ⟨w3.heap.size, 3, none⟩ = some (.int .i64 (kk : Int)) := by rw [hb4.cell (p := ⟨w3.heap.size, 3, none⟩) (by simp)]; simp)
    | (refine loadO 58 52 Try.size58 Try.row58 (by rfl) _ (by rfl) w1.heap.size 1 (by rfl) C2 HQ4.out hC2l ?_)
    | (refine build81f (by rfl) _ _ _ (by rfl) C2 HC2.out _ _ _ _ n (by rfl) (by rfl) (by rfl) ?_)
    | (refine storeT 70 58 Try.size70 (by rfl) _ _ (by rfl) w.heap.size (Value.int .i64 0 :: (C2 ++ tailC g2 cap2 kk ms.length n)).toArray (by rfl) (by rfl) HT4.out (c58_size C2 hC2l _ _ _ _ _) (c58_one C2 HC2o.out _ _ _ _ _) ?_; intro w7 hb7 hz7 hk7 hr7b))
  exact bodyPost_ret (resultT Try.results32 Try.size70 Try.row70 _ _ w.heap.size (Value.int .i64 0 :: (C2 ++ tailC g2 cap2 kk ms.length n)) rfl (by simpa using hr7b) (by simp [tailC, hC2l])) rfl ⟨hbe4.trans hb7, g2, cap2, kk, ms, by rw [← HC2E.out]; rfl, ⟨Nat.lt_of_lt_of_le HN4.out.lt hb7.size, fun i x hx j u hu => (World.cell?_of_block (w := w4) (hk7 g2 hg2w)).trans (HN4.out.c i x hx j u hu)⟩, HRM.out, HGD.out, HCM.out, hml2⟩

end Go.Proofs.Ytcfbfdjmcabnkaa

namespace Go.Proofs.Ytcfbfdjmcabnkaa
open Go.RowKit Fw
open Go.Deep (BT)
set_option linter.unusedVariables false

theorem Try.size90 : (Try.prog.info? 90).map (·.size) = some 55 := by kernel_rfl
theorem Try.row90 : ∃ d, Try.prog.underlying 90 = some d ∧ d.isRow = true := ⟨_, Try.underlying90, rfl⟩
theorem built117 (c : Nat) (M : Nat → Nat → Bool) (K : Nat → ByteArray) (f : ByteArray) (B : Nat → Bool) (a : Option Addr) (m cap : Nat) (x : ByteArray) : Try.prog.built 90 [(0, .agg (cells52 c M K f B).toArray), (1, .slice a m cap), (2, .string x)] = some (cells52 c M K f B ++ ([.slice a m cap, .string x, .int .i64 0] : List Value)).toArray := by kernel_rfl
theorem yldB {ops : Array Oper} {S : World → Prop} {op : Oper} {a : Act} (hw : Region.wanted op (yielded ops a.tmps) = true) (x y z : Operand) (ho : op.op = .build 90 #[(0, x), (1, y), (2, z)])
    (C : List Value) (hC : ∃ c M K f B, C = cells52 c M K f B) (ad : Option Addr) (m cap : Nat) (c : ByteArray) (hx : a.eval x = .agg C.toArray) (hy : a.eval y = .slice ad m cap) (hz : a.eval z = .string c) :
    YieldsIf Try.prog ops S op (.agg (C ++ ([.slice ad m cap, .string c, .int .i64 0] : List Value)).toArray) a := by
  obtain ⟨c', M, K, f, B, rfl⟩ := hC
  have hv : ((#[(0, x), (1, y), (2, z)] : Array (Nat × Operand)).map fun (i, x) => (i, a.eval x)).toList = [(0, .agg (cells52 c' M K f B).toArray), (1, .slice ad m cap), (2, .string c)] := by simp [hx, hy, hz]
  refine .inl ⟨hw, fun w _ => ?_⟩
  unfold execOp
  simp only [ho, Sem.run_bind, run_build w 90 _ _ (by rw [hv]; exact built117 _ _ _ _ _ _ _ _ _), Result.andThen_ok]
  rfl
theorem yld52 {ops : Array Oper} {S : World → Prop} {op : Oper} {a : Act} (H o : Nat) (L : List Value) (hl : L.length = 52) (hw : Region.wanted op (yielded ops a.tmps) = true) (x : Operand) (ho : op.op = .load 58 x) (hx : a.eval x = .pointer (some ⟨H, o, none⟩)) (hS : ∀ w, S w → w.rangeAt H o L) : YieldsIf Try.prog ops S op (.agg L.toArray) a := by
  obtain ⟨d, hu, hd⟩ := Try.row58
  exact yieldsIf_load_mid hw 58 x ho H o hx L d hS hu hd (by rw [hl]; exact Try.size58)

theorem alloc_any {w : World} {Z : Array Value} {t : TypeId} {n : Nat} {M : World → Prop} (hz : Z.size = n) (h : ∀ W, Below w.heap.size w W → W.heap.size = w.heap.size + 1 → W.there w.heap.size 0 n → (∀ j, W.frozen? ⟨w.heap.size, j, none⟩ = false) → M W) : M (w.alloc (.cells Z t)) :=
  h _ ((Below.refl _ _).alloc (Nat.le_refl _) _) (by simp) (there_newG w Z t n hz) (fun j => frozen_of_row _ _ _ _ _ (heap_alloc_new w _))

/-- a claim's box -/
structure Cx (w : World) (cb : Nat) (C2 : List Value) (g2 cap2 kk st : Nat) (ms : List Nd) : Prop where
  lt : cb < w.heap.size
  wr : w.rangeAt cb 1 C2
  c55 : w.cell? ⟨cb, 55, none⟩ = some (.slice (some ⟨g2, 0, none⟩) ms.length cap2)
  c56 : w.cell? ⟨cb, 56, none⟩ = some (.int .i64 (kk : Int))
  c57 : w.cell? ⟨cb, 57, none⟩ = some (.int .i64 (st : Int))
  nr : Nr w g2 ms

set_option maxRecDepth 100000 in
set_option maxHeartbeats 4000000 in
theorem shown_is (G : Gph) (K : Nat → ByteArray) (f c : ByteArray) (B : Nat → Bool) (t : Fm) (cb g2 cap2 kk st : Nat) (ms : List Nd) (w : World) (hn6 : G.n ≤ 6) (ks : ∀ i, (K i).size ≤ 1000) (mm : ∀ i c, i < 6 → (G.m i c = true ↔ ∃ d ∈ (K i).data.toList, d.toNat = c))
    (hf : f.size ≤ 1000) (hc : c.size ≤ 4000000) (hst : st < G.n) (hg : good t) (hsh : shw t) (hr : Rep ms t kk) (HX : Hid (Cx w cb (cells52 G.n G.e K f B) g2 cap2 kk st ms)) :
    Calls Try.prog 33 #[.pointer (some ⟨cb, 0, none⟩), .string c] w fun e w' => e = .returned (.bool (decide (rep G (fsOf f) c t st 0 = some c.size))) ∧ Below w.heap.size w w' := by
  have HPA := fun b => pass_any b g2 cap2 G K f B ms c hc hf hn6 t hg hsh kk hr
  obtain ⟨X, hX⟩ : ∃ X, X = decide (rep G (fsOf f) c t st 0 = some c.size) := ⟨_, rfl⟩
  have HXE : Hid (X = decide (rep G (fsOf f) c t st 0 = some c.size)) := hX
  rw [← hX]
  clear hX
  have HWY : Hid (∀ (W : World) (b : Nat), b < W.heap.size → W.rangeAt b 0 (cells52 G.n G.e K f B) → Wy W b 0 G K f B) := fun W b h1 h2 => wy_of h1 hn6 ks mm h2
  obtain ⟨C2, hC2⟩ : ∃ C2, C2 = cells52 G.n G.e K f B := ⟨_, rfl⟩
  have HC2 : Hid (∃ c M K f B, C2 = cells52 c M K f B) := ⟨_, _, _, _, _, hC2⟩
  have hC2l : C2.length = 52 := by rw [hC2]; exact cells52_len _ _ _ _ _
  have HC2o : Hid (C2.toArray.all (·.oneCell') = true) := by rw [hC2]; exact cells52_one _ _ _ _ _
  rw [← hC2] at HX HWY
  clear hC2 ks mm
  have c55 := HX.out.c55
  have c56 := HX.out.c56
  have c57 := HX.out.c57
  have hlt := HX.out.lt
  have HWR : Hid (w.rangeAt cb 1 C2) := HX.out.wr
  go_enter Try.func33, Try.ntmps33
  go_wp2_with fail
  refine wp_region_held_drew (S := fun w' => w'.cell? ⟨cb, 55, none⟩ = some (.slice (some ⟨g2, 0, none⟩) ms.length cap2) ∧ w'.rangeAt cb 1 C2) (by kernel_rfl) ⟨c55, HWR.out⟩ (fun hHeld => ?_)
  refine wpAnyH_take (i := 0) (v := ?v1) rfl (by kernel_rfl) (by kernel_rfl) (by kernel_rfl) (fun _ _ _ h => h) (Or.inl ⟨by rfl, ?hy1⟩) hHeld ?rest1
  case hy1 =>
    intro W hW
    obtain ⟨hW1, hW2⟩ := hW
    go_simp
    try with_reducible rfl
  simp only [Act.put]
  refine wpAnyH_take (i := 1) (v := ?v2) rfl (by kernel_rfl) (by kernel_rfl) (by kernel_rfl) (fun _ _ _ h => h) (Or.inl ⟨by rfl, ?hy2⟩) hHeld ?rest2
  case hy2 =>
    intro W hW
    obtain ⟨hW1, hW2⟩ := hW
    go_simp
    try with_reducible rfl
  simp only [Act.put]
  refine wpAnyH_take (i := 2) (v := ?v3) rfl (by kernel_rfl) (by kernel_rfl) (by kernel_rfl) (fun _ _ _ h => h) (Or.inl ⟨by rfl, ?hy3⟩) hHeld ?rest3
  case hy3 =>
    intro W hW
    obtain ⟨hW1, hW2⟩ := hW
    go_simp
    try with_reducible rfl
  simp only [Act.put]
  refine wpAnyH_take (i := 3) rfl (by kernel_rfl) (by kernel_rfl) (by kernel_rfl) (fun _ _ _ h => h) (yld52 cb 1 C2 hC2l (by rfl) _ (by rfl) (by rfl) (fun _ h => h.2)) hHeld ?_
  simp only [Act.put]
  refine wpAnyH_take (i := 4) (v := ?v4) rfl (by kernel_rfl) (by kernel_rfl) (by kernel_rfl) (fun _ _ _ h => h) (Or.inl ⟨by rfl, ?hy4⟩) hHeld ?rest4
  case hy4 =>
    intro W hW
    obtain ⟨hW1, hW2⟩ := hW
    go_simp
    try with_reducible rfl
  simp only [Act.put]
  refine wpAnyH_take (i := 5) (v := ?v5) rfl (by kernel_rfl) (by kernel_rfl) (by kernel_rfl) (fun _ _ _ h => h) (Or.inl ⟨by rfl, ?hy5⟩) hHeld ?rest5
  case hy5 =>
    intro W hW
    obtain ⟨hW1, hW2⟩ := hW
    go_simp
    try with_reducible rfl
  simp only [Act.put]
  refine wpAnyH_take (i := 6) (v := ?v6) rfl (by kernel_rfl) (by kernel_rfl) (by kernel_rfl) (fun _ _ _ h => h) (Or.inl ⟨by rfl, ?hy6⟩) hHeld ?rest6
  case hy6 =>
    intro W hW
    obtain ⟨hW1, hW2⟩ := hW
    go_simp
    try with_reducible rfl
  simp only [Act.put]
  refine wpAnyH_take (i := 7) (v := ?v7) rfl (by kernel_rfl) (by kernel_rfl) (by kernel_rfl) (fun _ _ _ h => h) (Or.inl ⟨by rfl, ?hy7⟩) hHeld ?rest7
  case hy7 =>
    intro W hW
    obtain ⟨hW1, hW2⟩ := hW
    go_simp
    try with_reducible rfl
  simp only [Act.put]
  refine wpAnyH_take (i := 8) (v := ?v8) rfl (by kernel_rfl) (by kernel_rfl) (by kernel_rfl) (fun _ _ _ h => h) (Or.inl ⟨by rfl, ?hy8⟩) hHeld ?rest8
  case hy8 =>
    intro W hW
    obtain ⟨hW1, hW2⟩ := hW
    go_simp
    try with_reducible rfl
  simp only [Act.put]
  refine wpAnyH_take (i := 9) (v := ?v9) rfl (by kernel_rfl) (by kernel_rfl) (by kernel_rfl) (fun _ _ _ h => h) (Or.inl ⟨by rfl, ?hy9⟩) hHeld ?rest9
  case hy9 =>
    intro W hW
    obtain ⟨hW1, hW2⟩ := hW
    go_simp
    try with_reducible rfl
  simp only [Act.put]
  refine wpAnyH_take (i := 10) (v := .agg (C2 ++ ([.slice (some ⟨g2, 0, none⟩) ms.length cap2, .string c, .int .i64 0] : List Value)).toArray) rfl (by kernel_rfl) (by kernel_rfl) (by kernel_rfl) (fun _ _ _ h => h) ?hyb hHeld ?_
  case hyb =>
    refine yldB ?_ (.tmp 9) (.tmp 14) (.tmp 15) ?_ C2 HC2.out (some ⟨g2, 0, none⟩) ms.length cap2 c ?_ ?_ ?_
    · rfl
    · rfl
    · go_simp
    · go_simp
    · go_simp
  refine wpAnyH_ready (rs := [11]) (by kernel_rfl) (by simp) ?_
  refine AllReadyH.cons rfl (fun KK hKK => ?_) AllReadyH.nil
  go_simp
  refine alloc_any (n := 55) (M := fun W => KK _ W.drew) rfl ?_
  intro W hbW hzW htW hfW
  have hltR : w.heap.size < W.heap.size := by omega
  have d55 : W.cell? ⟨cb, 55, none⟩ = some (.slice (some ⟨g2, 0, none⟩) ms.length cap2) := (hbW.cell (p := ⟨cb, 55, none⟩) hlt).trans c55
  have d56 : W.cell? ⟨cb, 56, none⟩ = some (.int .i64 (kk : Int)) := (hbW.cell (p := ⟨cb, 56, none⟩) hlt).trans c56
  have d57 : W.cell? ⟨cb, 57, none⟩ = some (.int .i64 (st : Int)) := (hbW.cell (p := ⟨cb, 57, none⟩) hlt).trans c57
  have HWR1 : Hid (W.rangeAt cb 1 C2) := fun j v hv => (hbW.cell (p := ⟨cb, 1 + j, none⟩) hlt).trans (HWR.out j v hv)
  have HN1 : Hid (Nr W g2 ms) := HX.out.nr.below hbW HX.out.nr.lt
  refine hKK.out _ _ ⟨d55, HWR1.out⟩ (fun hHeld => ?_)
  clear hKK KK
  refine wpAnyH_ready (rs := [12]) (by kernel_rfl) (by simp) ?_
  refine AllReadyH.cons rfl (fun KK hKK => ?_) AllReadyH.nil
  rw [if_pos (by rfl)]
  have hL5 : (C2 ++ ([.slice (some ⟨g2, 0, none⟩) ms.length cap2, .string c, .int .i64 0] : List Value)).length = 55 := by simp [hC2l]
  have hO5 : (C2 ++ ([.slice (some ⟨g2, 0, none⟩) ms.length cap2, .string c, .int .i64 0] : List Value)).toArray.all (·.oneCell') = true := by
    refine all_oneCell_toArray fun v hv => ?_
    simp only [List.mem_cons, List.mem_append, List.not_mem_nil, or_false] at hv
    rcases hv with hv | rfl | rfl | rfl
    · exact (Array.all_eq_true_iff_forall_mem.1 HC2o.out) v (by simpa using hv)
    · rfl
    · rfl
    · rfl
  have HCE : Hid (∀ W : World, W.rangeAt w.heap.size 0 (C2 ++ ([.slice (some ⟨g2, 0, none⟩) ms.length cap2, .string c, .int .i64 0] : List Value)) → W.rangeAt w.heap.size 0 C2 ∧ W.cell? ⟨w.heap.size, 52, none⟩ = some (.slice (some ⟨g2, 0, none⟩) ms.length cap2) ∧ W.cell? ⟨w.heap.size, 53, none⟩ = some (.string c) ∧ W.cell? ⟨w.heap.size, 54, none⟩ = some (.int .i64 0)) := by
    intro W h
    refine ⟨fun j v hv => h j v (by rw [List.getElem?_append_left (List.getElem?_eq_some_iff.1 hv).1]; exact hv), h 52 _ ?_, h 53 _ ?_, h 54 _ ?_⟩
    all_goals rw [List.getElem?_append_right (by rw [hC2l]; omega), hC2l]; rfl
  obtain ⟨C5, hC5⟩ : ∃ C5, C5 = C2 ++ ([.slice (some ⟨g2, 0, none⟩) ms.length cap2, .string c, .int .i64 0] : List Value) := ⟨_, rfl⟩
  rw [← hC5] at hL5 hO5 HCE
  have hS5 : C5.toArray.size = 55 := by simp [hL5]
  refine wp_store_mid 90 _ _ rfl w.heap.size 0 C5.toArray rfl (by rw [hC5]; go_simp) (by rw [hS5]; exact htW) (by rw [hS5]; exact Try.size90) hO5 ?_
  have hr6 : (W.drew.setCells w.heap.size 0 C5.toArray.toList).rangeAt w.heap.size 0 C5.toArray.toList := World.rangeAt_setCells_same _ _ _ _ (by simpa [hL5] using htW)
  have hb6 : Below w.heap.size W.drew (W.drew.setCells w.heap.size 0 C5.toArray.toList) := below_setCellsT _ _ _ _
  have hk6 := block_setCellsT w.heap.size C5.toArray.toList 0 W.drew
  have hz6 := size_setCellsT w.heap.size C5.toArray.toList 0 W.drew
  have hf6 : ∀ p, (W.drew.setCells w.heap.size 0 C5.toArray.toList).frozen? p = W.drew.frozen? p := fun p => World.frozen?_setCells _ _ _ _ _
  generalize W.drew.setCells w.heap.size 0 C5.toArray.toList = w6 at hr6 hb6 hk6 hz6 hf6 ⊢
  have hlt6 : w.heap.size < w6.heap.size := by rw [hz6]; exact hltR
  obtain ⟨q1, q2, q3, q4⟩ := HCE.out w6 (by simpa using hr6)
  have hneg : g2 ≠ w.heap.size := by have := HX.out.nr.lt; omega
  have hnec : cb ≠ w.heap.size := by omega
  have hbel6 : Below w.heap.size w w6 := hbW.drew.trans hb6
  have HC6 : Hid (Cr w6 w.heap.size g2 cap2 G K f B ms c 0) := ⟨HWY.out w6 _ hlt6 q1, q2, q3, q4, (hf6 _).trans (hfW _), ⟨Nat.lt_of_lt_of_le HN1.out.lt hb6.size, fun i x hx j u hu => (World.cell?_of_block (w := W) (hk6 g2 hneg)).trans (HN1.out.c i x hx j u hu)⟩, hneg⟩
  have s55 : w6.cell? ⟨cb, 55, none⟩ = some (.slice (some ⟨g2, 0, none⟩) ms.length cap2) := (World.cell?_of_block (w := W) (hk6 cb hnec)).trans d55
  have s56 : w6.cell? ⟨cb, 56, none⟩ = some (.int .i64 (kk : Int)) := (World.cell?_of_block (w := W) (hk6 cb hnec)).trans d56
  have s57 : w6.cell? ⟨cb, 57, none⟩ = some (.int .i64 (st : Int)) := (World.cell?_of_block (w := W) (hk6 cb hnec)).trans d57
  refine hKK.out _ _ ⟨s55, fun j v hv => (World.cell?_of_block (w := W) (hk6 cb hnec)).trans (HWR1.out j v hv)⟩ (fun hHeld => ?_)
  clear hKK KK hHeld hr6 hk6 hz6 hf6 q1 q2 q3 q4 d55 d56 d57 HWR1 HN1 HWR HCE hO5 hS5 hL5 hC5 c55 c56 c57 htW hfW hzW hltR
  refine wpAnyH_done (by kernel_rfl) ?_ _
  simp only [Act.put, List.getElem_toArray, List.getElem_cons_succ, List.getElem_cons_zero]
  clear hb6 hbW HWY HC2 HC2o
  go_wp2_with fail
  go_region_held3 (fun w' => w'.cell? ⟨cb, 56, none⟩ = some (.int .i64 (kk : Int)) ∧ w'.cell? ⟨cb, 57, none⟩ = some (.int .i64 (st : Int))) (first
      | exact ⟨s56, s57⟩
      | exact ⟨t56, t57⟩) (first
    | (go_at_call 42; refine (HPA w.heap.size _ st 0 (show Hid _ from HC6.out.drew) hst (Nat.zero_le _)).mono ?_; rintro e w7 ⟨q, hcr, hq, hkq, hx⟩
       have HX7 : Hid ((rep G (fsOf f) c t st 0 = none ∧ e = .returned (.bool false)) ∨ (rep G (fsOf f) c t st 0 = some q ∧ e = .returned (.bool true))) := hx
       have HC7 : Hid (Cr w7 w.heap.size g2 cap2 G K f B ms c q) := hcr
       have HB7 : Hid (Below w.heap.size w w7) := hbel6.drew.trans (hkq.below (by show w.heap.size ≤ w6.heap.size; omega))
       have c54 := hcr.c54
       have t56 : w7.cell? ⟨cb, 56, none⟩ = some (.int .i64 (kk : Int)) := (hkq.cell (by show cb < w6.heap.size; omega) hnec 56).trans s56
       have t57 : w7.cell? ⟨cb, 57, none⟩ = some (.int .i64 (st : Int)) := (hkq.cell (by show cb < w6.heap.size; omega) hnec 57).trans s57
       clear hcr hkq hx
       obtain ⟨Y, rfl⟩ : ∃ Y, e = .returned (.bool Y) := by rcases HX7.out with ⟨_, h⟩ | ⟨_, h⟩ <;> exact ⟨_, h⟩))
  have HY : Hid ((rep G (fsOf f) c t st 0 = none ∧ Y = false) ∨ (rep G (fsOf f) c t st 0 = some q ∧ Y = true)) := by
    rcases HX7.out with ⟨h1, h2⟩ | ⟨h1, h2⟩
    · exact .inl ⟨h1, by injection h2 with h2; injection h2⟩
    · exact .inr ⟨h1, by injection h2 with h2; injection h2⟩
  clear HX7
  cases Y with
  | false =>
    have HN : Hid (X = false) := by
      show _ = _
      rcases HY.out with ⟨h1, _⟩ | ⟨_, h2⟩
      · rw [HXE.out, h1]; rfl
      · cases h2
    go_wp2_with fail
    go_ret
    exact ⟨by rw [HN.out]; rfl, HB7.out⟩
  | true =>
    have HN : Hid (X = decide (q = c.size)) := by
      show _ = _
      rcases HY.out with ⟨_, h2⟩ | ⟨h1, _⟩
      · cases h2
      · rw [HXE.out, h1]; simp
    go_wp2_with fail
    go_ret
    exact ⟨by rw [HN.out, show decide (q = c.size) = ((q : Int) == (c.size : Int)) from by rw [Bool.eq_iff_iff, beq_iff_eq, decide_eq_true_eq]; omega]; rfl, HB7.out⟩

end Go.Proofs.Ytcfbfdjmcabnkaa

namespace Go.Proofs.Ytcfbfdjmcabnkaa
open Go.RowKit Fw
open Go.Deep (BT)
set_option linter.unusedVariables false

def anyT (l : List UInt8) : Bool := l.any fun c => c.toNat == 65
theorem anyT_iff (l : List UInt8) : anyT l = true ↔ txtA l := by simp [anyT, txtA]

/-- the errors of Replay but for the certificate's length -/
def lat (g f s : ByteArray) (n : Int) : Nat :=
  if flt g f s ≠ 0 then flt g f s else if n < 0 ∨ ((gphOf g).n : Int) ≤ n then 7 else if anyT (push (treeOf s) false) = true then 8 else 0
/-- P7 -/
def rpl (g f s : ByteArray) (n : Int) (c : ByteArray) : Bool × Nat :=
  if ¬ c.size ≤ 4000000 then (false, 1) else if lat g f s n ≠ 0 then (false, lat g f s n) else (decide (rep (gphOf g) (fsOf f) c (pushT (treeOf s) false) n.toNat 0 = some c.size), 0)

set_option maxRecDepth 100000 in
set_option maxHeartbeats 4000000 in
theorem replay_err (g f s : ByteArray) (n : Int) (c : ByteArray) (w : World) (hc : c.size ≤ 4000000) (E : Nat) (h0 : E ≠ 0) (HQ : Hid (∀ W, Calls Try.prog 32 #[.string g, .string f, .string s, .int .i64 n] W fun e w' => e = .returned (.agg (.int .i64 (E : Int) :: rest57).toArray) ∧ Below W.heap.size W w')) :
    Calls Try.prog 25 #[.string g, .string f, .string s, .int .i64 n, .string c] w fun e w' => e = .returned (.tuple #[.bool false, .int .i64 (E : Int)]) ∧ Below w.heap.size w w' := by
  have hne : ((E : Int) != 0) = true := by rw [bne_iff_ne]; omega
  have hcc : ¬ (4000000 : Int) < (c.size : Int) := by omega
  have hr7 := rest57_len
  have HO7 : Hid (∀ v ∈ rest57, v.oneCell' = true) := rest57_one
  obtain ⟨R7, hR7⟩ : ∃ R7, R7 = rest57 := ⟨_, rfl⟩
  rw [← hR7] at hr7 HO7 HQ
  clear hR7 h0
  go_enter Try.func25, Try.ntmps25
  go_wp2_with (first
    | (go_at_call 32; refine (HQ.out _).mono ?_; rintro e w1 ⟨rfl, hb1⟩)
    | (refine storeT 70 58 Try.size70 (by rfl) _ _ (by rfl) w1.heap.size (Value.int .i64 (E : Int) :: R7).toArray (by rfl) (by rfl) (there_newG _ _ _ 58 rfl) (size58 _ _ hr7) (one57 _ _ HO7.out) ?_; intro w2 hb2 hz2 hk2 hr2
       have c0 : w2.cell? ⟨w1.heap.size, 0, none⟩ = some (.int .i64 (E : Int)) := hr2 0 _ rfl
       have hbe : Below w.heap.size w w2 := hb1.trans (((below1 w1 _).trans hb2).mono hb1.size)
       clear hr2))
  go_quiet (fail)
  go_wp2
  go_ret2
  exact ⟨rfl, below_drewN hbe _⟩

set_option maxRecDepth 100000 in
set_option maxHeartbeats 4000000 in
theorem replay_long (g f s : ByteArray) (n : Int) (c : ByteArray) (w : World) (hc : ¬ c.size ≤ 4000000) :
    Calls Try.prog 25 #[.string g, .string f, .string s, .int .i64 n, .string c] w fun e w' => e = .returned (.tuple #[.bool false, .int .i64 1]) ∧ Below w.heap.size w w' := by
  have hcc : (4000000 : Int) < (c.size : Int) := by omega
  go_enter Try.func25, Try.ntmps25
  go_wp2_with fail
  go_ret2
  exact ⟨rfl, Below.refl _ _⟩

theorem tree_all (s : ByteArray) : treeOf s = (ptAll s).2.2 := rfl

set_option maxRecDepth 100000 in
set_option maxHeartbeats 4000000 in
theorem replay_ok (g f s : ByteArray) (st : Nat) (c : ByteArray) (w : World) (hf : f.size ≤ 9223372036854775807) (hc : c.size ≤ 4000000) (h0 : flt g f s = 0) (hst : st < (gphOf g).n) (hA : ¬ txtA (push (ptAll s).2.2 false)) :
    Calls Try.prog 25 #[.string g, .string f, .string s, .int .i64 (st : Int), .string c] w fun e w' => e = .returned (.tuple #[.bool (decide (rep (gphOf g) (fsOf f) c (pushT (ptAll s).2.2 false) st 0 = some c.size)), .int .i64 0]) ∧ Below w.heap.size w w' := by
  have HQ := fun W => claim_yes g f s (st : Int) W hf h0 (by omega) (by omega) hA
  have hcc : ¬ (4000000 : Int) < (c.size : Int) := by omega
  obtain ⟨hg, hs, hck, hfo, hfr⟩ := flt_zero h0
  have hn6 : (gphOf g).n ≤ 6 := (run_starts g 6 0 (by omega)).1
  have hf3 : f.size ≤ 1000 := by
    simp only [fairOk, Bool.and_eq_true, decide_eq_true_eq] at hfo
    omega
  have HSH := fun (hgd : good (ptAll s).2.2) (cb g2 cap2 kk : Nat) (ms : List Nd) (W : World) (hr : Rep ms (pushT (ptAll s).2.2 false) kk) (hx : Hid (Cx W cb (cells52 (gphOf g).n (gphOf g).e (mrk g (run g 6 0).2.2) f (begP (gphOf g) (fsOf f))) g2 cap2 kk st ms)) => shown_is (gphOf g) (mrk g (run g 6 0).2.2) f c (begP (gphOf g) (fsOf f)) (pushT (ptAll s).2.2 false) cb g2 cap2 kk st ms W hn6 (fun i => mrk_size g _ i hg) (fun i c _ => by
      show (List.any _ _) = true ↔ _
      simp only [List.any_eq_true, beq_iff_eq]) hf3 hc hst (pushT_is _ hgd false).2.1 (push_shw _ hgd false (fun c hc h => hA ⟨c, hc, h⟩)) hr hx
  obtain ⟨X, hX⟩ : ∃ X, X = decide (rep (gphOf g) (fsOf f) c (pushT (ptAll s).2.2 false) st 0 = some c.size) := ⟨_, rfl⟩
  rw [← hX] at HSH
  rw [← hX]
  obtain ⟨C2, hC2⟩ : ∃ C2, C2 = cells52 (gphOf g).n (gphOf g).e (mrk g (run g 6 0).2.2) f (begP (gphOf g) (fsOf f)) := ⟨_, rfl⟩
  have hC2l : C2.length = 52 := by rw [hC2]; exact cells52_len _ _ _ _ _
  have HC2o : Hid (C2.toArray.all (·.oneCell') = true) := by rw [hC2]; exact cells52_one _ _ _ _ _
  have HQ2 : Hid (∀ W, Calls Try.prog 32 #[.string g, .string f, .string s, .int .i64 (st : Int)] W fun e w' => Below W.heap.size W w' ∧ ∃ (g2 cap2 kk : Nat) (ms : List Nd), e = .returned (.agg (Value.int .i64 0 :: (C2 ++ tailC g2 cap2 kk ms.length (st : Int))).toArray) ∧ Nr w' g2 ms ∧ Rep ms (pushT (ptAll s).2.2 false) kk ∧ good (ptAll s).2.2) := by
    intro W
    refine (HQ W).mono ?_
    rintro e w' ⟨h1, g2, cap2, kk, ms, h2, h3, h4, h5⟩
    exact ⟨h1, g2, cap2, kk, ms, by rw [h2, hC2]; rfl, h3, h4, h5.1⟩
  rw [← hC2] at HSH
  clear hX hC2 HQ hA h0 hck hfo hfr hs hg hst hn6 hc
  go_enter Try.func25, Try.ntmps25
  go_wp2_with (first
    | (go_at_call 32; refine (HQ2.out _).mono ?_; rintro e w1 ⟨hb1, g2, cap2, kk, ms, rfl, hnr, hrep, hgood⟩
       have HN1 : Hid (Nr w1 g2 ms) := hnr
       have HRP : Hid (Rep ms (pushT (ptAll s).2.2 false) kk) := hrep
       have HGD : Hid (good (ptAll s).2.2) := hgood
       clear hnr hrep hgood)
    | (refine storeT 70 58 Try.size70 (by rfl) _ _ (by rfl) w1.heap.size (Value.int .i64 0 :: (C2 ++ tailC g2 cap2 kk ms.length (st : Int))).toArray (by rfl) (by rfl) (there_newG _ _ _ 58 rfl) (c58_size C2 hC2l _ _ _ _ _) (c58_one C2 HC2o.out _ _ _ _ _) ?_; intro w2 hb2 hz2 hk2 hr2
       have hr2' : w2.rangeAt w1.heap.size 0 (Value.int .i64 0 :: (C2 ++ tailC g2 cap2 kk ms.length (st : Int))) := by simpa using hr2
       have c0 : w2.cell? ⟨w1.heap.size, 0, none⟩ = some (.int .i64 0) := hr2' 0 _ rfl
       have hb12 : Below w1.heap.size w1 w2 := (below1 w1 _).trans hb2
       have hbe : Below w.heap.size w w2 := hb1.trans (hb12.mono hb1.size)
       have hs12 : w1.heap.size < w2.heap.size := by rw [hz2]; simp
       have HCX : Hid (Cx w2 w1.heap.size C2 g2 cap2 kk st ms) := ⟨hs12, rangeAt_part (xs := [.int .i64 0]) hr2' rfl rfl,
         hr2' 55 _ (by rw [List.getElem?_cons_succ, List.getElem?_append_right (by rw [hC2l]; omega), hC2l]; rfl),
         hr2' 56 _ (by rw [List.getElem?_cons_succ, List.getElem?_append_right (by rw [hC2l]; omega), hC2l]; rfl),
         hr2' 57 _ (by rw [List.getElem?_cons_succ, List.getElem?_append_right (by rw [hC2l]; omega), hC2l]; rfl), HN1.out.below hb12 HN1.out.lt⟩
       clear hr2 hr2' hb2 hz2 hk2)
    | (go_at_call 33; refine (HSH HGD.out w1.heap.size g2 cap2 kk ms _ HRP.out HCX).mono ?_; rintro e w3 ⟨rfl, hb3⟩))
  go_ret2
  exact ⟨rfl, Below.to hbe hb3⟩

/-- THE PROGRAM'S REPLAY -/
theorem replay_all (g f s : ByteArray) (n : Int) (c : ByteArray) (w : World) (hf : f.size ≤ 9223372036854775807) :
    Calls Try.prog 25 #[.string g, .string f, .string s, .int .i64 n, .string c] w fun e w' => e = .returned (.tuple #[.bool (rpl g f s n c).1, .int .i64 ((rpl g f s n c).2 : Nat)]) ∧ Below w.heap.size w w' := by
  by_cases hc : c.size ≤ 4000000
  · by_cases h0 : flt g f s = 0
    · by_cases hn : n < 0 ∨ ((gphOf g).n : Int) ≤ n
      · have e : rpl g f s n c = (false, 7) := by
          have : lat g f s n = 7 := by unfold lat; rw [if_neg (by omega), if_pos hn]
          unfold rpl; rw [if_neg (by omega), this]; rfl
        rw [e]
        exact replay_err g f s n c w hc 7 (by omega) (fun W => claim_arg g f s n W hf h0 (by omega))
      · by_cases hA : txtA (push (ptAll s).2.2 false)
        · have e : rpl g f s n c = (false, 8) := by
            have : lat g f s n = 8 := by unfold lat; rw [if_neg (by omega), if_neg hn, tree_all, if_pos ((anyT_iff _).2 hA)]
            unfold rpl; rw [if_neg (by omega), this]; rfl
          rw [e]
          exact replay_err g f s n c w hc 8 (by omega) (fun W => claim_A g f s n W hf h0 (by omega) (by omega) hA)
        · obtain ⟨st, rfl⟩ : ∃ st : Nat, n = (st : Int) := ⟨n.toNat, by omega⟩
          have e : rpl g f s (st : Int) c = (decide (rep (gphOf g) (fsOf f) c (pushT (ptAll s).2.2 false) st 0 = some c.size), 0) := by
            have : lat g f s (st : Int) = 0 := by unfold lat; rw [if_neg (by omega), if_neg hn, tree_all, if_neg (fun h => hA ((anyT_iff _).1 h))]
            unfold rpl; rw [if_neg (by omega), this]; rfl
          rw [e]
          exact replay_ok g f s st c w hf hc h0 (by omega) hA
    · have e : rpl g f s n c = (false, flt g f s) := by
        have : lat g f s n = flt g f s := by unfold lat; rw [if_pos h0]
        unfold rpl; rw [if_neg (by omega), this, if_pos h0]
      rw [e]
      exact replay_err g f s n c w hc _ h0 (fun W => claim_err g f s n W hf _ rfl h0)
  · have e : rpl g f s n c = (false, 1) := by unfold rpl; rw [if_pos hc]
    rw [e]
    exact replay_long g f s n c w hc

end Go.Proofs.Ytcfbfdjmcabnkaa

