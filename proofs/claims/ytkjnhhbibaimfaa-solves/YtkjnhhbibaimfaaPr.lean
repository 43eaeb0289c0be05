import Derived.Test.YtkjnhhbibaimfaaPq
namespace Go.Proofs.Ytkjnhhbibaimfaa
open Go.RowKit Fw
open Go.Deep (BT)
set_option linter.unusedVariables false

set_option maxRecDepth 100000 in
set_option maxHeartbeats 4000000 in
theorem question_graph (g f s : ByteArray) (w : World) (hg : g.size ≤ 210) (hs : s.size ≤ 30) (E : Nat) (hE : (chk g).1 = E) (h0 : E ≠ 0) :
    Calls Try.prog 30 #[.string g, .string f, .string s] w fun e w' => e = .returned (.agg (.int .i64 (E : Int) :: rest56).toArray) ∧ Below w.heap.size w w' := by
  have HT0 := fun (C : Array Value) (h : C.size = 57) => there_newG w C 66 57 h
  have hr := rest56_len
  have HO' : Hid (∀ v ∈ rest56, v.oneCell' = true) := rest56_one
  obtain ⟨R, hR⟩ : ∃ R, R = rest56 := ⟨_, rfl⟩
  have HB : ∀ {ops : Array Oper} {rest : List Oper} {o : Oper} {a : Act} {w : World} {Q : Exit → Act → World → Prop} (hgd : o.guard = none) (x : Operand) (ho : o.op = .build 66 #[(0, x)]) (e : Int) (hx : a.eval x = .int .i64 e)
    (h : wpList Try.prog ops Q rest (a.put o.dst (.agg (.int .i64 e :: R).toArray)) w), wpList Try.prog ops Q (o :: rest) a w := by
    intro _ _ _ _ _ _ hgd x ho e hx h
    rw [hR] at h
    exact build66e hgd x ho e hx h
  rw [← hR] at hr HO'
  rw [← hR]
  clear hR
  have HE : Hid ((chkAll g).1 = E) := by show _ = _; rw [chkAll, if_pos hg]; exact hE
  have h1 : ¬ (210 : Int) < (g.size : Int) := by omega
  have h2 : ¬ (30 : Int) < (s.size : Int) := by omega
  have hne : ((E : Int) != 0) = true := by rw [bne_iff_ne]; omega
  clear hE
  go_enter Try.func30, Try.ntmps30
  go_wp2_with (first
    | (go_at_call 45; refine (loadGraph_all g _).mono ?_; rintro e w1 ⟨⟨cs, rfl, hl, h1, _⟩, hb1⟩
       rw [HE.out]
       have HC : Hid (∀ v ∈ cs, v.oneCell' = true) := h1
       clear h1
       have hb01 : Below w.heap.size w w1 := Below.past hb1
       have HT1 : Hid (w1.there w.heap.size 0 57) := there_below hb1 (by simp) (HT0 _ rfl))
    | (refine storeT 58 45 Try.size58 (by rfl) _ _ (by rfl) w1.heap.size _ (by rfl) (by rfl) (there_new _ _ _ rfl) (size_cons43 _ _ _ hl) (one_cons43 _ _ _ rfl rfl HC.out) ?_; intro w2 hb2 hz2 hk2 hr2
       have c0 : w2.cell? ⟨w1.heap.size, 0, none⟩ = _ := hr2 0 _ rfl
       have HR2 : Hid (w2.rangeAt w1.heap.size 0 _) := hr2
       have hbel2 : Below w.heap.size w w2 := hb01.trans (((below1 w1 _).trans hb2).mono hb01.size)
       have HT2 : Hid (w2.there w.heap.size 0 57) := there_below ((below1 w1 _).trans hb2) (Nat.lt_of_lt_of_le (by simp) hb1.size) HT1.out
       have hs2 : w.heap.size < w2.heap.size := by have q := hb1.size; rw [hz2]; simp at q ⊢; omega
       clear hr2 hb2 hz2 hk2)
    | (refine HB (by rfl) _ (by rfl) (E : Int) (by rfl) ?_)
    | (refine storeT 66 57 Try.size66 (by rfl) _ _ (by rfl) w.heap.size (Value.int .i64 (E : Int) :: R).toArray (by rfl) (by rfl) HT2.out (size57 _ _ hr) (one57 _ _ HO'.out) ?_; intro w7 hb7 hz7 hk7 hr7))
  exact bodyPost_ret (resultT Try.results30 Try.size66 Try.row66 _ _ w.heap.size (Value.int .i64 (E : Int) :: R) rfl (by simpa using hr7) (by simp [hr])) rfl ⟨rfl, hbel2.trans hb7⟩

set_option maxRecDepth 100000 in
set_option maxHeartbeats 4000000 in
theorem question_fair (g f s : ByteArray) (w : World) (hg : g.size ≤ 210) (hs : s.size ≤ 30) (hf : f.size ≤ 9223372036854775807) (hE : (chk g).1 = 0) (hk : fairOk f = false) :
    Calls Try.prog 30 #[.string g, .string f, .string s] w fun e w' => e = .returned (.agg (.int .i64 4 :: rest56).toArray) ∧ Below w.heap.size w w' := by
  have HT0 := fun (C : Array Value) (h : C.size = 57) => there_newG w C 66 57 h
  have hr := rest56_len
  have HO' : Hid (∀ v ∈ rest56, v.oneCell' = true) := rest56_one
  obtain ⟨R, hR⟩ : ∃ R, R = rest56 := ⟨_, rfl⟩
  have HB : ∀ {ops : Array Oper} {rest : List Oper} {o : Oper} {a : Act} {w : World} {Q : Exit → Act → World → Prop} (hgd : o.guard = none) (x : Operand) (ho : o.op = .build 66 #[(0, x)]) (e : Int) (hx : a.eval x = .int .i64 e)
    (h : wpList Try.prog ops Q rest (a.put o.dst (.agg (.int .i64 e :: R).toArray)) w), wpList Try.prog ops Q (o :: rest) a w := by
    intro _ _ _ _ _ _ hgd x ho e hx h
    rw [hR] at h
    exact build66e hgd x ho e hx h
  rw [← hR] at hr HO'
  rw [← hR]
  clear hR
  have HE : Hid ((chkAll g).1 = 0) := by show _ = _; rw [chkAll, if_pos hg]; exact hE
  have HFP := fun W => fair_P f W hf
  rw [hk] at HFP
  have h1 : ¬ (210 : Int) < (g.size : Int) := by omega
  have h2 : ¬ (30 : Int) < (s.size : Int) := by omega
  clear hE hk
  go_enter Try.func30, Try.ntmps30
  go_wp2_with (first
    | (go_at_call 45; refine (loadGraph_all g _).mono ?_; rintro e w1 ⟨⟨cs, rfl, hl, h1, _⟩, hb1⟩
       rw [HE.out]
       have HC : Hid (∀ v ∈ cs, v.oneCell' = true) := h1
       clear h1
       have hb01 : Below w.heap.size w w1 := Below.past hb1
       have HT1 : Hid (w1.there w.heap.size 0 57) := there_below hb1 (by simp) (HT0 _ rfl))
    | (refine storeT 58 45 Try.size58 (by rfl) _ _ (by rfl) w1.heap.size _ (by rfl) (by rfl) (there_new _ _ _ rfl) (size_cons43 _ _ _ hl) (one_cons43 _ _ _ rfl rfl HC.out) ?_; intro w2 hb2 hz2 hk2 hr2
       have c0 : w2.cell? ⟨w1.heap.size, 0, none⟩ = _ := hr2 0 _ rfl
       have HR2 : Hid (w2.rangeAt w1.heap.size 0 _) := hr2
       have hbel2 : Below w.heap.size w w2 := hb01.trans (((below1 w1 _).trans hb2).mono hb01.size)
       have HT2 : Hid (w2.there w.heap.size 0 57) := there_below ((below1 w1 _).trans hb2) (Nat.lt_of_lt_of_le (by simp) hb1.size) HT1.out
       have hs2 : w.heap.size < w2.heap.size := by have q := hb1.size; rw [hz2]; simp at q ⊢; omega
       clear hr2 hb2 hz2 hk2)
    | (go_at_call 46; refine (HFP _).mono ?_; rintro e w3 ⟨rfl, rfl⟩)
    | (refine HB (by rfl) _ (by rfl) 4 (by rfl) ?_)
    | (refine storeT 66 57 Try.size66 (by rfl) _ _ (by rfl) w.heap.size (Value.int .i64 4 :: R).toArray (by rfl) (by rfl) HT2.out (size57 _ _ hr) (one57 _ _ HO'.out) ?_; intro w7 hb7 hz7 hk7 hr7))
  exact bodyPost_ret (resultT Try.results30 Try.size66 Try.row66 _ _ w.heap.size (Value.int .i64 4 :: R) rfl (by simpa using hr7) (by simp [hr])) rfl ⟨rfl, hbel2.trans hb7⟩

set_option maxRecDepth 100000 in
set_option maxHeartbeats 4000000 in
theorem question_form (g f s : ByteArray) (w : World) (hg : g.size ≤ 210) (hs : s.size ≤ 30) (hf : f.size ≤ 9223372036854775807) (hE : (chk g).1 = 0) (hk : fairOk f = true) (E : Nat) (hE2 : (frm s).1 = E) (h0 : E ≠ 0) :
    Calls Try.prog 30 #[.string g, .string f, .string s] w fun e w' => e = .returned (.agg (.int .i64 (E : Int) :: rest56).toArray) ∧ Below w.heap.size w w' := by
  have HT0 := fun (C : Array Value) (h : C.size = 57) => there_newG w C 66 57 h
  have hr := rest56_len
  have HO' : Hid (∀ v ∈ rest56, v.oneCell' = true) := rest56_one
  obtain ⟨R, hR⟩ : ∃ R, R = rest56 := ⟨_, rfl⟩
  have HB : ∀ {ops : Array Oper} {rest : List Oper} {o : Oper} {a : Act} {w : World} {Q : Exit → Act → World → Prop} (hgd : o.guard = none) (x : Operand) (ho : o.op = .build 66 #[(0, x)]) (e : Int) (hx : a.eval x = .int .i64 e)
    (h : wpList Try.prog ops Q rest (a.put o.dst (.agg (.int .i64 e :: R).toArray)) w), wpList Try.prog ops Q (o :: rest) a w := by
    intro _ _ _ _ _ _ hgd x ho e hx h
    rw [hR] at h
    exact build66e hgd x ho e hx h
  rw [← hR] at hr HO'
  rw [← hR]
  clear hR
  have HE : Hid ((chkAll g).1 = 0) := by show _ = _; rw [chkAll, if_pos hg]; exact hE
  have HE2 : Hid ((frmAll s).1 = E) := by show _ = _; rw [frmAll, if_pos hs]; exact hE2
  have HFP := fun W => fair_P f W hf
  rw [hk] at HFP
  have h1 : ¬ (210 : Int) < (g.size : Int) := by omega
  have h2 : ¬ (30 : Int) < (s.size : Int) := by omega
  have hne : ((E : Int) != 0) = true := by rw [bne_iff_ne]; omega
  clear hE hk hE2
  go_enter Try.func30, Try.ntmps30
  go_wp2_with (first
    | (go_at_call 45; refine (loadGraph_all g _).mono ?_; rintro e w1 ⟨⟨cs, rfl, hl, h1, _⟩, hb1⟩
       rw [HE.out]
       have HC : Hid (∀ v ∈ cs, v.oneCell' = true) := h1
       clear h1
       have hb01 : Below w.heap.size w w1 := Below.past hb1
       have HT1 : Hid (w1.there w.heap.size 0 57) := there_below hb1 (by simp) (HT0 _ rfl))
    | (refine storeT 58 45 Try.size58 (by rfl) _ _ (by rfl) w1.heap.size _ (by rfl) (by rfl) (there_new _ _ _ rfl) (size_cons43 _ _ _ hl) (one_cons43 _ _ _ rfl rfl HC.out) ?_; intro w2 hb2 hz2 hk2 hr2
       have c0 : w2.cell? ⟨w1.heap.size, 0, none⟩ = _ := hr2 0 _ rfl
       have HR2 : Hid (w2.rangeAt w1.heap.size 0 _) := hr2
       have hbel2 : Below w.heap.size w w2 := hb01.trans (((below1 w1 _).trans hb2).mono hb01.size)
       have HT2 : Hid (w2.there w.heap.size 0 57) := there_below ((below1 w1 _).trans hb2) (Nat.lt_of_lt_of_le (by simp) hb1.size) HT1.out
       have hs2 : w.heap.size < w2.heap.size := by have q := hb1.size; rw [hz2]; simp at q ⊢; omega
       clear hr2 hb2 hz2 hk2)
    | (go_at_call 46; refine (HFP _).mono ?_; rintro e w3 ⟨rfl, rfl⟩)
    | (go_at_call 32; refine (loadFormula_tree s _).mono ?_; rintro e w4 ⟨hb4, aa, nn, cap, rr, rfl, _⟩
       rw [HE2.out]
       have hbel4 : Below w.heap.size w w4 := Below.to hbel2 hb4
       have HT4 : Hid (w4.there w.heap.size 0 57) := there_below hb4 hs2 HT2.out)
    | (refine HB (by rfl) _ (by rfl) (E : Int) (by rfl) ?_)
    | (refine storeT 66 57 Try.size66 (by rfl) _ _ (by rfl) w.heap.size (Value.int .i64 (E : Int) :: R).toArray (by rfl) (by rfl) (show Hid _ from World.there_alloc HT4.out _).out (size57 _ _ hr) (one57 _ _ HO'.out) ?_; intro w7 hb7 hz7 hk7 hr7))
  exact bodyPost_ret (resultT Try.results30 Try.size66 Try.row66 _ _ w.heap.size (Value.int .i64 (E : Int) :: R) rfl (by simpa using hr7) (by simp [hr])) rfl ⟨rfl, (hbel4.alloc hbel4.size _).trans hb7⟩

end Go.Proofs.Ytkjnhhbibaimfaa
