import Derived.Test.YtkjnhhbibaimfaaPs
namespace Go.Proofs.Ytkjnhhbibaimfaa
open Go.RowKit Fw
open Go.Deep (BT)
set_option linter.unusedVariables false

theorem question_err (g f s : ByteArray) (w : World) (hf : f.size ≤ 9223372036854775807) (h0 : flt g f s ≠ 0) :
    Calls Try.prog 30 #[.string g, .string f, .string s] w fun e w' => e = .returned (.agg (.int .i64 ((flt g f s : Nat) : Int) :: rest56).toArray) ∧ Below w.heap.size w w' := by
  by_cases h1 : 210 < g.size ∨ 30 < s.size
  · have e : flt g f s = 1 := by unfold flt; rw [if_pos h1]
    rw [e]
    exact question_long g f s w h1
  · by_cases h2 : (chk g).1 ≠ 0
    · have e : flt g f s = (chk g).1 := by unfold flt; rw [if_neg h1, if_pos h2]
      rw [e]
      exact question_graph g f s w (by omega) (by omega) _ rfl h2
    · have h2' : (chk g).1 = 0 := by simpa using h2
      cases hk : fairOk f with
      | false =>
        have e : flt g f s = 4 := by unfold flt; rw [if_neg h1, if_neg h2, if_pos hk]
        rw [e]
        exact question_fair g f s w (by omega) (by omega) hf h2' hk
      | true =>
        have e : flt g f s = (frm s).1 := by unfold flt; rw [if_neg h1, if_neg h2, if_neg (by rw [hk]; simp)]
        rw [e] at h0 ⊢
        exact question_form g f s w (by omega) (by omega) hf h2' hk _ rfl h0

theorem rangeAt_part {w : World} {b o : Nat} {cs xs ys zs : List Value} (h : w.rangeAt b 0 cs) (e : cs = xs ++ (ys ++ zs)) (ho : xs.length = o) : w.rangeAt b o ys := by
  intro j v hv
  have hj := (List.getElem?_eq_some_iff.1 hv).1
  have := h (o + j) v (by
    rw [e, List.getElem?_append_right (by omega), ho, show o + j - o = j from by omega, List.getElem?_append_left hj]
    exact hv)
  rw [Nat.zero_add] at this
  exact this

theorem bitsU_same {h k : Nat → Bool} {n : Nat} (e : ∀ i, i < n → h i = k i) : bitsU h n = bitsU k n := by
  unfold bitsU
  refine List.map_congr_left fun j hj => ?_
  rw [e j (List.mem_range.1 hj)]

set_option maxRecDepth 100000 in
set_option maxHeartbeats 4000000 in
theorem solve_all (g f s : ByteArray) (w : World) (hf : f.size ≤ 9223372036854775807) :
    Calls Try.prog 21 #[.string g, .string f, .string s] w fun e w' => e = .returned (.tuple #[.string (sol g f s).1, .int .i64 ((sol g f s).2 : Nat)]) ∧ Below w.heap.size w w' := by
  by_cases h0 : flt g f s = 0
  · obtain ⟨hg, hs, hck, hfo, hfr⟩ := flt_zero h0
    have HQ := question_ok g f s w hg hs hf hck hfo hfr
    have hok := gph_ok hck
    have hf3 : f.size ≤ 1000 := by
      simp only [fairOk, Bool.and_eq_true, decide_eq_true_eq] at hfo
      omega
    have hn6 : (gphOf g).n ≤ 6 := (run_starts g 6 0 (by omega)).1
    have HS : Hid (∀ (ns : List Nd) (ri : Nat), Clo ns → Rep ns (ptAll s).2.2 ri → good (ptAll s).2.2 → bs (bitsU (vals (gphOf g) (fsOf f) ns ns.length ri) (gphOf g).n) = (sol g f s).1) := by
      intro ns ri hc hr hgd
      have e1 : (sol g f s).1 = bs (bitsU (holdsB (gphOf g) (fsOf f) (treeOf s)) (gphOf g).n) := by rw [sol, if_pos h0]
      rw [e1, vals_is hc _ hgd ri ns.length hr (hr.lt hgd).1]
      rw [bitsU_same (fun i hi => holds_eq hok hn6 (ptAll s).2.2 hgd i hi)]
      rfl
    have HS2 : Hid ((sol g f s).2 = 0) := by show _ = _; rw [sol, if_pos h0]
    have HWY : Hid (∀ (W : World) (b : Nat) (B : Nat → Bool), b < W.heap.size → W.rangeAt b 1 (cells52 (gphOf g).n (gphOf g).e (mrk g (run g 6 0).2.2) f B) → Hid (Wy W b 1 (gphOf g) (mrk g (run g 6 0).2.2) f B)) := fun W b B h1 h2 => wy_of h1 hn6 (fun i => mrk_size g _ i hg) (fun i c _ => by
      show (List.any _ _) = true ↔ _
      simp only [List.any_eq_true, beq_iff_eq]) h2
    obtain ⟨X, hX⟩ : ∃ X, X = (sol g f s).1 := ⟨_, rfl⟩
    rw [← hX] at HS
    rw [← hX, HS2.out]
    clear hX HS2 h0
    go_enter Try.func21, Try.ntmps21
    go_wp2_with (first
      | (go_at_call 30; refine HQ.mono ?_; rintro e w1 ⟨hb1, y, gg, cap, ri, ns, hy, rfl, hnr, hclo, hnl, hrep, hgood⟩
         obtain ⟨C3, hC3⟩ : ∃ C3, C3 = Value.int .i64 0 :: (cells52 (gphOf g).n (gphOf g).e (mrk g (run g 6 0).2.2) f (begP (gphOf g) (fsOf f)) ++ [.int .i64 0, y, .slice (some ⟨gg, 0, none⟩) ns.length cap, .int .i64 (ri : Int)]) := ⟨_, rfl⟩
         rw [← hC3]
         have hC3l : C3.length = 57 := by rw [hC3]; simp [cells52_len]
         have hC3s : C3.toArray.size = 57 := by simp [hC3l]
         have hC3o : C3.toArray.all (·.oneCell') = true := by
           refine all_oneCell_toArray fun v hv => ?_
           rw [hC3] at hv
           simp only [List.mem_cons, List.mem_append, List.not_mem_nil, or_false] at hv
           rcases hv with rfl | hv | rfl | rfl | rfl | rfl
           · rfl
           · exact (Array.all_eq_true_iff_forall_mem.1 (cells52_one _ _ _ _ _)) v (by simpa using hv)
           · rfl
           · exact hy
           · rfl
           · rfl
         have HC3 : Hid (C3 = Value.int .i64 0 :: (cells52 (gphOf g).n (gphOf g).e (mrk g (run g 6 0).2.2) f (begP (gphOf g) (fsOf f)) ++ [.int .i64 0, y, .slice (some ⟨gg, 0, none⟩) ns.length cap, .int .i64 (ri : Int)])) := hC3
         have HN1 : Hid (Nr w1 gg ns) := hnr
         have HCL : Hid (Clo ns) := hclo
         have HRP : Hid (Rep ns (ptAll s).2.2 ri) := hrep
         have HGD : Hid (good (ptAll s).2.2) := hgood
         clear hC3 hnr hclo hrep hgood)
      | (refine storeT 66 57 Try.size66 (by rfl) _ _ (by rfl) w1.heap.size C3.toArray (by rfl) (by rfl) (there_newG _ _ _ 57 rfl) hC3s hC3o ?_; intro w2 hb2 hz2 hk2 hr2
         have hr2' : w2.rangeAt w1.heap.size 0 C3 := by simpa using hr2
         have c0 : w2.cell? ⟨w1.heap.size, 0, none⟩ = some (.int .i64 0) := hr2' 0 _ (by rw [HC3.out]; rfl)
         have hbe : Below w.heap.size w w2 := hb1.trans (((below1 w1 _).trans hb2).mono hb1.size)
         have hb12 : Below w1.heap.size w1 w2 := (below1 w1 _).trans hb2
         have hs12 : w1.heap.size < w2.heap.size := by rw [hz2]; simp
         have HW2 := HWY.out w2 w1.heap.size _ hs12 (rangeAt_part (xs := [.int .i64 0]) hr2' (by rw [HC3.out]; rfl) rfl)
         have c55 : w2.cell? ⟨w1.heap.size, 55, none⟩ = some (.slice (some ⟨gg, 0, none⟩) ns.length cap) := hr2' 55 _ (by
           rw [HC3.out, List.getElem?_cons_succ, List.getElem?_append_right (by rw [cells52_len]; omega), cells52_len]; rfl)
         have c56 : w2.cell? ⟨w1.heap.size, 56, none⟩ = some (.int .i64 (ri : Int)) := hr2' 56 _ (by
           rw [HC3.out, List.getElem?_cons_succ, List.getElem?_append_right (by rw [cells52_len]; omega), cells52_len]; rfl)
         have HAN := answer_P w1.heap.size gg ns.length cap ri (gphOf g) (mrk g (run g 6 0).2.2) f ns HCL.out rfl (by omega) hf3 (HRP.out.lt HGD.out).1 w2 HW2 (show Nr _ _ _ from HN1.out.below hb12 HN1.out.lt) c55 c56
         rw [HS.out ns ri HCL.out HRP.out HGD.out] at HAN
         clear hr2 hr2' c55 c56)
      | (go_at_call 31; refine HAN.mono ?_; rintro e w3 ⟨rfl, hb3⟩))
    go_ret2
    exact ⟨rfl, Below.to hbe hb3⟩
  · have HQ := question_err g f s w hf h0
    have HS : Hid (sol g f s = (ByteArray.empty, flt g f s)) := by show _ = _; rw [sol, if_neg h0]
    rw [HS.out]
    obtain ⟨E, hE⟩ : ∃ E, E = flt g f s := ⟨_, rfl⟩
    rw [← hE] at HQ h0
    rw [← hE]
    have hne : ((E : Int) != 0) = true := by rw [bne_iff_ne]; omega
    clear hE HS
    have hr := rest56_len
    have HO' : Hid (∀ v ∈ rest56, v.oneCell' = true) := rest56_one
    obtain ⟨R, hR⟩ : ∃ R, R = rest56 := ⟨_, rfl⟩
    rw [← hR] at hr HO' HQ
    clear hR
    go_enter Try.func21, Try.ntmps21
    go_wp2_with (first
      | (go_at_call 30; refine HQ.mono ?_; rintro e w1 ⟨rfl, hb1⟩)
      | (refine storeT 66 57 Try.size66 (by rfl) _ _ (by rfl) w1.heap.size (Value.int .i64 (E : Int) :: R).toArray (by rfl) (by rfl) (there_newG _ _ _ 57 rfl) (size57 _ _ hr) (one57 _ _ HO'.out) ?_; intro w2 hb2 hz2 hk2 hr2
         have c0 : w2.cell? ⟨w1.heap.size, 0, none⟩ = some (.int .i64 (E : Int)) := hr2 0 _ rfl
         have hbe : Below w.heap.size w w2 := hb1.trans (((below1 w1 _).trans hb2).mono hb1.size)
         clear hr2))
    go_quiet (fail)
    go_wp2
    go_ret2
    exact ⟨rfl, below_drewN hbe _⟩

end Go.Proofs.Ytkjnhhbibaimfaa
