import Derived.Test.YtkjnhhbibaimfaaPr
namespace Go.Proofs.Ytkjnhhbibaimfaa
open Go.RowKit Fw
open Go.Deep (BT)
set_option linter.unusedVariables false

theorem nr_of {w : World} {base n cap : Nat} {a : Option Addr} {ns : List Nd} (hown : w.ownsRow base 97 5 (.slice a n cap) ns.length (flatN ns)) (hl : 0 < ns.length) : ∃ g, a = some ⟨g, 0, none⟩ ∧ n = ns.length ∧ base ≤ g ∧ Nr w g ns := by
  obtain ⟨g, cap2, hv, hb, hlt⟩ := hown.form hl
  injection hv with h1 h2 h3
  refine ⟨g, h1, h2, hb, by omega, ?_⟩
  intro i z hz j u hu
  have hj : j < 5 := by
    have := (List.getElem?_eq_some_iff.1 hu).1
    simpa [five] using this
  have hc := hown.cells (g := g) (by rw [h1]; rfl) (i * 5 + j) u (by rw [flatN_get z ns i j hz hj]; exact hu)
  rw [Go.WideShapes.add_plain, Nat.zero_add] at hc
  exact hc

theorem wp_build66 {op : Oper} {a : Act} {w : World} {KK : Act → World → Prop} {Q : Exit → Act → World → Prop} (x y : Operand) (ho : op.op = .build 66 #[(1, x), (2, y)]) (C2 : List Value) (HC2 : Hid (∃ c M K f B, C2 = cells52 c M K f B)) (p q r t : Value)
    (hx : a.eval x = .agg C2.toArray) (hy : a.eval y = .agg #[p, q, r, t]) (h : KK (a.put op.dst (.agg (.int .i64 0 :: (C2 ++ [p, q, r, t])).toArray)) w) : op.wp Try.prog a w KK Q := by
  obtain ⟨c, M, K, f, B, rfl⟩ := HC2.out
  have hv : ((#[(1, x), (2, y)] : Array (Nat × Operand)).map fun (i, x) => (i, a.eval x)).toList = [(1, .agg (cells52 c M K f B).toArray), (2, .agg #[p, q, r, t])] := by simp [hx, hy]
  refine wp_build 66 #[(1, x), (2, y)] ho (by rw [hv, built66]; rfl) ?_
  rw [hv, built66]
  exact h

theorem yld58 {ops : Array Oper} {S : World → Prop} {op : Oper} {a : Act} (H : Nat) (L : List Value) (hl : L.length = 45) (hw : Region.wanted op (yielded ops a.tmps) = true) (x : Operand) (ho : op.op = .load 58 x) (hx : a.eval x = .pointer (some ⟨H, 0, none⟩)) (hS : ∀ w, S w → w.rangeAt H 0 L) : YieldsIf Try.prog ops S op (.agg L.toArray) a := by
  obtain ⟨d, hu, hd⟩ := Try.row58
  exact yieldsIf_load_mid hw 58 x ho H 0 hx L d hS hu hd (by rw [hl]; exact Try.size58)

theorem rangeAt_block {w w' : World} {R b o : Nat} {cs : List Value} (hk : ∀ k, k ≠ R → w'.heap[k]? = w.heap[k]?) (hb : b ≠ R) (hr : w.rangeAt b o cs) : w'.rangeAt b o cs :=
  fun j v hv => (cell_block hk hb (o + j)).trans (hr j v hv)

/-- what reading a good question gives -/
def QOk (g f s : ByteArray) (w : World) (e : Ending) (w' : World) : Prop := Below w.heap.size w w' ∧ ∃ (y : Value) (gg cap ri : Nat) (ns : List Nd), y.oneCell' = true ∧ e = .returned (.agg (.int .i64 0 :: (cells52 (gphOf g).n (gphOf g).e (mrk g (run g 6 0).2.2) f (begP (gphOf g) (fsOf f)) ++ [.int .i64 0, y, .slice (some ⟨gg, 0, none⟩) ns.length cap, .int .i64 (ri : Int)])).toArray) ∧
      Nr w' gg ns ∧ Clo ns ∧ ns.length ≤ 30 ∧ Rep ns (ptAll s).2.2 ri ∧ good (ptAll s).2.2

theorem QOk.of {g f s : ByteArray} {w w' : World} {C2 C3 : List Value} {y : Value} {gg cap ri : Nat} {ns : List Nd} (hC2 : C2 = cells52 (gphOf g).n (gphOf g).e (mrk g (run g 6 0).2.2) f (begP (gphOf g) (fsOf f))) (hC3 : C3 = Value.int .i64 0 :: (C2 ++ [.int .i64 0, y, .slice (some ⟨gg, 0, none⟩) ns.length cap, .int .i64 (ri : Int)])) (hy : y.oneCell' = true) (hb : Below w.heap.size w w') (hn : Nr w' gg ns) (hc : Clo ns) (hl : ns.length ≤ 30) (hr : Rep ns (ptAll s).2.2 ri) (hg : good (ptAll s).2.2) :
    QOk g f s w (.returned (.agg C3.toArray)) w' := by
  subst hC2 hC3
  exact ⟨hb, y, gg, cap, ri, ns, hy, rfl, hn, hc, hl, hr, hg⟩

set_option maxRecDepth 100000 in
set_option maxHeartbeats 4000000 in
theorem question_ok (g f s : ByteArray) (w : World) (hg : g.size ≤ 210) (hs : s.size ≤ 30) (hf : f.size ≤ 9223372036854775807) (hE : (chk g).1 = 0) (hk : fairOk f = true) (hE2 : (frm s).1 = 0) :
    Calls Try.prog 30 #[.string g, .string f, .string s] w fun e w' => QOk g f s w e w' := by
  have HT0 := fun (C : Array Value) (h : C.size = 57) => there_newG w C 66 57 h
  obtain ⟨hz1, hz2⟩ := chk_zero hE
  have HE : Hid (chkAll g = (0, 0)) := by show _ = _; rw [chkAll, if_pos hg]; exact chk_good hz1 hz2
  have HE2 : Hid ((frmAll s).1 = 0) := by show _ = _; rw [frmAll, if_pos hs]; exact hE2
  have HFP := fun W => fair_P f W hf
  rw [hk] at HFP
  have h1 : ¬ (210 : Int) < (g.size : Int) := by omega
  have h2 : ¬ (30 : Int) < (s.size : Int) := by omega
  have hf3 : f.size ≤ 1000 := by
    simp only [fairOk, Bool.and_eq_true, decide_eq_true_eq] at hk
    omega
  have hn6 : (gphOf g).n ≤ 6 := (run_starts g 6 0 (by omega)).1
  have HWP := fun W => ways_P (gphOf g) (mrk g (run g 6 0).2.2) f hn6 hf3 (fun i => mrk_size g _ i hg) (fun i c _ => by
    show (List.any _ _) = true ↔ _
    simp only [List.any_eq_true, beq_iff_eq]) W
  obtain ⟨L, hL⟩ : ∃ L, L = grCells (gphOf g).n (gphOf g).e (mrk g (run g 6 0).2.2) := ⟨_, rfl⟩
  have HLG : Hid (grCells (run g 6 0).2.2.length (mat g (run g 6 0).2.2) (mrk g (run g 6 0).2.2) = L) := hL.symm
  have hLl : L.length = 43 := by rw [hL]; exact grCells_len _ _ _
  have HLo : Hid (∀ v ∈ L, v.oneCell' = true) := by rw [hL]; exact grCells_one _ _ _
  obtain ⟨C2, hC2⟩ : ∃ C2, C2 = cells52 (gphOf g).n (gphOf g).e (mrk g (run g 6 0).2.2) f (begP (gphOf g) (fsOf f)) := ⟨_, rfl⟩
  have HC2 : Hid (∃ c M K f B, C2 = cells52 c M K f B) := ⟨_, _, _, _, _, hC2⟩
  have hC2l : C2.length = 52 := by rw [hC2]; exact cells52_len _ _ _ _ _
  have HC2o : Hid (C2.toArray.all (·.oneCell') = true) := by show _ = _; rw [hC2]; exact cells52_one _ _ _ _ _
  rw [← hL, ← hC2] at HWP
  have HC2E : Hid (C2 = cells52 (gphOf g).n (gphOf g).e (mrk g (run g 6 0).2.2) f (begP (gphOf g) (fsOf f))) := hC2
  clear hE hk hE2 hL hC2 hz1 hz2
  go_enter Try.func30, Try.ntmps30
  go_wp2_with (first
    | (go_at_call 45; refine (loadGraph_all g _).mono ?_; rintro e w1 ⟨⟨cs, rfl, hl, h1, hcs⟩, hb1⟩
       obtain rfl : cs = L := (hcs (by rw [HE.out])).trans HLG.out
       rw [HE.out]
       clear h1 hcs hl
       have hb01 : Below w.heap.size w w1 := Below.past hb1
       have HT1 : Hid (w1.there w.heap.size 0 57) := there_below hb1 (by simp) (HT0 _ rfl))
    | (refine storeT 58 45 Try.size58 (by rfl) _ _ (by rfl) w1.heap.size _ (by rfl) (by rfl) (there_new _ _ _ rfl) (size_cons43 _ _ _ hLl) (one_cons43 _ _ _ rfl rfl HLo.out) ?_; intro w2 hb2 hz2 hk2 hr2
       have c0 : w2.cell? ⟨w1.heap.size, 0, none⟩ = _ := hr2 0 _ rfl
       have HR2 : Hid (w2.rangeAt w1.heap.size 0 (.int .i64 0 :: .int .i64 0 :: cs)) := hr2
       have hbel2 : Below w.heap.size w w2 := hb01.trans (((below1 w1 _).trans hb2).mono hb01.size)
       have HT2 : Hid (w2.there w.heap.size 0 57) := there_below ((below1 w1 _).trans hb2) (Nat.lt_of_lt_of_le (by simp) hb1.size) HT1.out
       have hs2 : w.heap.size < w2.heap.size := by have q := hb1.size; rw [hz2]; simp at q ⊢; omega
       have hs21 : w1.heap.size < w2.heap.size := by rw [hz2]; simp
       clear hr2 hb2 hz2 hk2)
    | (go_at_call 46; refine (HFP _).mono ?_; rintro e w3 ⟨rfl, rfl⟩)
    | (go_at_call 32; refine (loadFormula_tree s _).mono ?_; rintro e w4 ⟨hb4, aa, nn, cap, rr, rfl, hfo⟩
       obtain ⟨_, ns, ri, rfl, hown, hrep, hgood, _, hclo, hnl⟩ := hfo HE2.out
       rw [HE2.out]
       have hbel4 : Below w.heap.size w w4 := Below.to hbel2 hb4
       have HT4 : Hid (w4.there w.heap.size 0 57) := there_below hb4 hs2 HT2.out
       have HR4 : Hid (w4.rangeAt w1.heap.size 0 (.int .i64 0 :: .int .i64 0 :: cs)) := rangeAt_below hb4 hs21 HR2.out
       have HOWN : Hid (w4.ownsRow _ 97 5 (.slice aa nn cap) ns.length (flatN ns)) := hown
       have HREP : Hid (Rep ns (ptAll s).2.2 ri) := hrep
       have HGOOD : Hid (good (ptAll s).2.2) := hgood
       have HCLO : Hid (Clo ns) := hclo
       clear hown hrep hgood hclo hfo))
  have hsz4 := hb4.size
  have hpos : 0 < ns.length := by have := (HREP.out.lt HGOOD.out).1; omega
  obtain ⟨gg, rfl, rfl, hbg, hnr⟩ := nr_of HOWN.out hpos
  have HNR : Hid (Nr w4 gg ns) := hnr
  clear hnr HOWN
  obtain ⟨y, hy⟩ : ∃ y, y = Value.int IntKind.i64 ((frmAll s).2 : Nat) := ⟨_, rfl⟩
  have hyo : y.oneCell' = true := by rw [hy]; rfl
  rw [← hy]
  clear hy
  generalize hW : w4.alloc (Obj.cells #[Value.int IntKind.i64 0, y, Value.slice (some ⟨gg, 0, none⟩) ns.length cap, Value.int IntKind.i64 (ri : Int)] 64) = W
  have m0 : W.cell? ⟨w4.heap.size, 0, none⟩ = some (.int .i64 0) := by rw [← hW]; simp
  have m1 : W.cell? ⟨w4.heap.size, 1, none⟩ = some y := by rw [← hW]; simp
  have m2 : W.cell? ⟨w4.heap.size, 2, none⟩ = some (.slice (some ⟨gg, 0, none⟩) ns.length cap) := by rw [← hW]; simp
  have m3 : W.cell? ⟨w4.heap.size, 3, none⟩ = some (.int .i64 (ri : Int)) := by rw [← hW]; simp
  have hbW : Below w4.heap.size w4 W := by rw [← hW]; exact (Below.refl _ _).alloc (Nat.le_refl _) _
  have hwb : w4.heap.size < W.heap.size := by rw [← hW]; simp
  clear hW
  have HRW : Hid (W.rangeAt w1.heap.size 0 (.int .i64 0 :: .int .i64 0 :: cs)) := rangeAt_below hbW (by omega) HR4.out
  have HTW : Hid (W.there w.heap.size 0 57) := there_below hbW (by omega) HT4.out
  have hbelW : Below w.heap.size w W := Below.to hbel4 hbW
  have HNW : Hid (Nr W gg ns) := HNR.out.below hbW HNR.out.lt
  have e1 : w1.heap.size ≠ w.heap.size := by have q := hb1.size; simp at q; omega
  have e2 : w4.heap.size ≠ w.heap.size := by omega
  refine wp_region_held_drew (S := fun w' => w'.rangeAt w1.heap.size 0 (.int .i64 0 :: .int .i64 0 :: cs) ∧ w'.cell? ⟨w4.heap.size, 0, none⟩ = some (.int .i64 0) ∧ w'.cell? ⟨w4.heap.size, 1, none⟩ = some y ∧ w'.cell? ⟨w4.heap.size, 2, none⟩ = some (.slice (some ⟨gg, 0, none⟩) ns.length cap) ∧ w'.cell? ⟨w4.heap.size, 3, none⟩ = some (.int .i64 (ri : Int))) (by kernel_rfl) ⟨HRW.out, m0, m1, m2, m3⟩ (fun hHeld => ?_)
  refine wpAnyH_take (i := 0) rfl (by kernel_rfl) (by kernel_rfl) (by kernel_rfl) (fun _ _ _ h => h) (yld58 w1.heap.size (.int .i64 0 :: .int .i64 0 :: cs) (by simp [hLl]) (by rfl) _ (by rfl) (by rfl) (fun _ h => h.1)) hHeld ?_
  simp only [Act.put, List.setIfInBounds_toArray]
  refine wpAnyH_take (i := 1) (v := ?v1) rfl (by kernel_rfl) (by kernel_rfl) (by kernel_rfl) (fun _ _ _ h => h) (Or.inl ⟨by rfl, ?hy1⟩) hHeld ?rest1
  case hy1 =>
    intro W' hW'
    obtain ⟨_, hW0, hW1, hW2, hW3⟩ := hW'
    go_simp
    try with_reducible rfl
  simp only [Act.put]
  refine wpAnyH_take (i := 3) (v := ?v2) rfl (by kernel_rfl) (by kernel_rfl) (by kernel_rfl) (fun _ _ _ h => h) (Or.inl ⟨by rfl, ?hy2⟩) hHeld ?rest2
  case hy2 =>
    intro W' hW'
    obtain ⟨_, hW0, hW1, hW2, hW3⟩ := hW'
    go_simp
    try with_reducible rfl
  simp only [Act.put]
  refine wpAnyH_ready (rs := [2]) (by kernel_rfl) (by simp) ?_
  refine AllReadyH.cons rfl (fun KK hKK => ?_) AllReadyH.nil
  go_simp
  refine (HWP _).mono ?_
  rintro e w5 ⟨rfl, hb5⟩
  have hc5 : Below W.heap.size W w5 := Below.dr hb5
  have HR5 : Hid (w5.rangeAt w1.heap.size 0 (.int .i64 0 :: .int .i64 0 :: cs)) := rangeAt_below hc5 (by omega) HRW.out
  have HT5 : Hid (w5.there w.heap.size 0 57) := there_below hc5 (by omega) HTW.out
  have p0 := (hc5.cell (p := ⟨w4.heap.size, 0, none⟩) hwb).trans m0
  have p1 := (hc5.cell (p := ⟨w4.heap.size, 1, none⟩) hwb).trans m1
  have p2 := (hc5.cell (p := ⟨w4.heap.size, 2, none⟩) hwb).trans m2
  have p3 := (hc5.cell (p := ⟨w4.heap.size, 3, none⟩) hwb).trans m3
  clear hHeld
  go_wp2_with fail
  refine hKK.out _ _ ⟨HR5.out, p0, p1, p2, p3⟩ (fun hHeld => ?_)
  clear hKK KK
  refine wpAnyH_ready (rs := [4]) (by kernel_rfl) (by simp) ?_
  refine AllReadyH.cons rfl (fun KK hKK => ?_) AllReadyH.nil
  rw [if_pos (by rfl)]
  refine wp_build66 _ _ rfl C2 HC2 _ _ _ _ rfl rfl ?_
  refine hKK.out _ _ hHeld (fun hHeld => ?_)
  clear hKK KK
  simp only [Act.put, List.setIfInBounds_toArray]
  refine wpAnyH_ready (rs := [5]) (by kernel_rfl) (by simp) ?_
  refine AllReadyH.cons rfl (fun KK hKK => ?_) AllReadyH.nil
  rw [if_pos (by rfl)]
  obtain ⟨C3, hC3⟩ : ∃ C3, C3 = Value.int .i64 0 :: (C2 ++ [.int .i64 0, y, .slice (some ⟨gg, 0, none⟩) ns.length cap, .int .i64 (ri : Int)]) := ⟨_, rfl⟩
  have hC3l : C3.length = 57 := by rw [hC3]; simp [hC2l]
  have hC3o : C3.toArray.all (·.oneCell') = true := by
    refine all_oneCell_toArray fun v hv => ?_
    rw [hC3] at hv
    simp only [List.mem_cons, List.mem_append, List.not_mem_nil, or_false] at hv
    rcases hv with rfl | hv | rfl | rfl | rfl | rfl
    · rfl
    · exact (Array.all_eq_true_iff_forall_mem.1 HC2o.out) v (by simpa using hv)
    · rfl
    · exact hyo
    · rfl
    · rfl
  have hC3s : C3.toArray.size = 57 := by simp [hC3l]
  have HC3 : Hid (C3 = Value.int .i64 0 :: (C2 ++ [.int .i64 0, y, .slice (some ⟨gg, 0, none⟩) ns.length cap, .int .i64 (ri : Int)])) := hC3
  refine wp_store_mid 66 _ _ rfl w.heap.size 0 C3.toArray rfl (by rw [hC3]; rfl) (by rw [hC3s]; exact HT5.out) (by rw [hC3s]; exact Try.size66) hC3o ?_
  have hr6 : (w5.setCells w.heap.size 0 C3.toArray.toList).rangeAt w.heap.size 0 C3.toArray.toList := World.rangeAt_setCells_same _ _ _ _ (by simpa [hC3l] using HT5.out)
  have hb6 : Below w.heap.size w5 (w5.setCells w.heap.size 0 C3.toArray.toList) := below_setCellsT _ _ _ _
  have hk6 := block_setCellsT w.heap.size C3.toArray.toList 0 w5
  clear hC3
  generalize w5.setCells w.heap.size 0 C3.toArray.toList = w6 at hr6 hb6 hk6 ⊢
  refine hKK.out _ _ ⟨rangeAt_block hk6 e1 HR5.out, (cell_block hk6 e2 0).trans p0, (cell_block hk6 e2 1).trans p1, (cell_block hk6 e2 2).trans p2, (cell_block hk6 e2 3).trans p3⟩ (fun hHeld => ?_)
  clear hKK KK
  have HN5 : Hid (Nr w5 gg ns) := HNW.out.below hc5 HNW.out.lt
  have hgw : gg ≠ w.heap.size := by omega
  have HN6 : Hid (Nr w6 gg ns) := ⟨Nat.lt_of_lt_of_le HN5.out.lt hb6.size, fun i x hx j u hu => (cell_block hk6 hgw _).trans (HN5.out.c i x hx j u hu)⟩
  refine wpAnyH_done (by kernel_rfl) ?_ _
  clear hHeld
  go_wp2_with fail
  exact bodyPost_ret (resultT Try.results30 Try.size66 Try.row66 _ _ w.heap.size C3 rfl (by simpa using hr6) hC3l) rfl (QOk.of HC2E.out HC3.out hyo ((Below.to hbelW hc5).trans hb6) HN6.out HCLO.out hnl HREP.out HGOOD.out)

end Go.Proofs.Ytkjnhhbibaimfaa
