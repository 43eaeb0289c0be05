import Derived.Test.YtcfbfdjmcabnkabGreatGT2
set_option maxRecDepth 100000
set_option maxHeartbeats 1000000
namespace Go.Proofs.YtcfbfdjmcabnkabGreat
open Go.RowKit Fw
open Go.Deep (BT)
set_option linter.unusedVariables false
theorem las_len {s : ByteArray} {p : Nat} (h : LasR s p) : (col s (opn s p) (p + 1) (sht s p - p - 1)).length <= 40 ∧ opn s p - p - 1 < (col s (opn s p) (p + 1) (sht s p - p - 1)).length ∧ sht s p + 2 <= s.size := by
 obtain ⟨h1, h2, h3, h4, h5, h6⟩ := h
 obtain ⟨O, hO⟩ : ∃ O, opn s p = O := ⟨_, rfl⟩
 obtain ⟨S, hS⟩ : ∃ S, sht s p = S := ⟨_, rfl⟩
 have h7 := isAt_lt h2
 rw [hO, hS] at h3 h5
 rw [hS] at h2 h4 h7
 have hp : p <= O := by rw [<- hO]; exact Nat.le_add_right _ _
 have hpO : p < O := by
   by_cases e : p = O
   · exfalso
     have h6 := (findc_spec (s := s) (c := 40) (O - p) p (by unfold opn at hO; omega)).2 (by omega)
     have h7 := (isAt_iff.1 h1).2
     rw [show p + (O - p) = p from by omega] at h6
     omega
   · omega
 have e1 := col_split (s := s) (o := O) (a := p + 1) (k1 := O - p - 1) (by omega) (S - O - 1)
 rw [show O - p - 1 + 1 + (S - O - 1) = S - p - 1 from by omega] at e1
 rw [hO, hS, e1]
 simp only [List.length_append, List.length_map, List.length_range]
 omega
theorem way_no1 (gb st p : Nat) (G : Gph) (mk : Nat -> ByteArray) (f s ft : ByteArray) (w : World) (hs : s.size <= 4000000) (hp : p <= s.size) (HG : Hid (Gm w gb G mk)) (hno : ¬ LasR s p) :
   Calls Tryz.prog 61 #[.agg #[.pointer (some ⟨gb, 0, none⟩), .string f, .string s], .string ft, .int .i64 (st : Int), .int .i64 (p : Int)] w fun e w' => e = .returned (.int .i64 (-1)) ∧ Below w.heap.size w w' := by
 have HLA := fun W => las_R s p W hs hp
 have HNO : Hid (¬ LasR s p) := hno
 clear hno
 go_enter Tryz.func61, Tryz.ntmps61
 go_wp2_with fail
 generalize hW : w.alloc (Obj.cells #[Value.pointer (some ⟨gb, 0, none⟩), Value.string f, Value.string s] 86) = W0
 obtain ⟨hWs, hBW⟩ := trial_box gb G mk f s w W0 HG.out hW
 have HBW : Hid _ := hBW
 clear hW hBW
 refine (HLA _).mono ?_
 rintro e w1 ⟨hb1, h⟩
 obtain ⟨-, a, l, c, x, y, rfl⟩ := h.resolve_right (fun h => HNO.out h.1)
 have HB1 : Hid (Below w.heap.size w w1) := (HBW.out W0 (Below.refl _ _)).2.2.2.2.trans (hb1.mono (by omega))
 have hz1 : w.heap.size < w1.heap.size := by have := hb1.size; omega
 clear hb1 h
 go_wp2_with fail
 go_ret
 exact ⟨rfl, HB1.out.alloc (by omega) _⟩
theorem las_yesR {s : ByteArray} {p N fr q : Nat} {ls : List Nat} (hs : s.size <= 4000000) (hp : p <= s.size) (hr : LasR s p) (hls : ls = col s (opn s p) (p + 1) (sht s p - p - 1)) (hN : N = ls.length) (hfr : fr = opn s p - p - 1) (hq : q = sht s p + 2) (W : World) :
   Calls Tryz.prog 89 #[.string s, .int .i64 (p : Int)] W fun e w' => ∃ gl cap, e = .returned (.tuple #[.agg #[.slice (some ⟨gl, 0, none⟩) N cap, .int .i64 (fr : Int)], .int .i64 (q : Int), .bool true]) ∧ Lr w' gl ls ∧ Below W.heap.size W w' := by
 refine (las_R s p W hs hp).mono ?_
 rintro e w1 ⟨hb1, h⟩
 obtain ⟨-, gl, cap, rfl, hL⟩ := h.resolve_left (fun h => h.1 hr)
 exact ⟨gl, cap, by rw [hN, hls, hfr, hq], by rw [hls]; exact hL, hb1⟩
theorem way_no2 (gb st p : Nat) (G : Gph) (mk : Nat -> ByteArray) (f s ft : ByteArray) (w : World) (hs : s.size <= 4000000) (hp : p <= s.size) (hf : f.size <= 1000) (HG : Hid (Gm w gb G mk)) (hyes : LasR s p)
   (hno : ((col s (opn s p) (p + 1) (sht s p - p - 1)).all fun x => decide (x < G.n)) = false ∨ goesL G (fsOf f) (col s (opn s p) (p + 1) (sht s p - p - 1)) (opn s p - p - 1) = false ∨ (col s (opn s p) (p + 1) (sht s p - p - 1)).getD 0 0 ≠ st) :
   Calls Tryz.prog 61 #[.agg #[.pointer (some ⟨gb, 0, none⟩), .string f, .string s], .string ft, .int .i64 (st : Int), .int .i64 (p : Int)] w fun e w' => e = .returned (.int .i64 (-1)) ∧ Below w.heap.size w w' := by
 have hlen := las_len hyes
 obtain ⟨ls, hls⟩ : ∃ ls, ls = col s (opn s p) (p + 1) (sht s p - p - 1) := ⟨_, rfl⟩
 obtain ⟨fr, hfr⟩ : ∃ fr, fr = opn s p - p - 1 := ⟨_, rfl⟩
 obtain ⟨q, hq⟩ : ∃ q, q = sht s p + 2 := ⟨_, rfl⟩
 obtain ⟨N, hN⟩ : ∃ N, N = ls.length := ⟨_, rfl⟩
 have HLA := fun W => las_yesR hs hp hyes hls hN hfr hq W
 rw [<- hls, <- hfr] at hno hlen
 have hn2 : ((ls.all fun x => decide (x < G.n)) && (goesL G (fsOf f) ls fr && decide (ls.getD 0 0 = st))) = false := by
   rcases hno with h | h | h
   · rw [h]; rfl
   · rw [h]; simp
   · rw [decide_eq_false h]; simp
 have HGO : ∀ (gl cap : Nat) (W : World), Hid (Gm W gb G mk) -> Hid (Lr W gl ls) -> Calls Tryz.prog 90 #[.pointer (some ⟨gb, 0, none⟩), .agg #[.slice (some ⟨gl, 0, none⟩) N cap, .int .i64 (fr : Int)], .string f, .int .i64 (st : Int)] W fun e w' => e = .returned (.bool false) ∧ Below W.heap.size W w' := by
   intro gl cap W h1 h2
   have := goes_R gb gl cap fr st ls G mk f W hf hlen.1 hlen.2.1 h1 h2
   rw [hn2, <- hN] at this
   exact this
 clear hls hfr hq hN hno hn2 hyes hlen
 go_enter Tryz.func61, Tryz.ntmps61
 go_wp2_with fail
 generalize hW : w.alloc (Obj.cells #[Value.pointer (some ⟨gb, 0, none⟩), Value.string f, Value.string s] 86) = W0
 obtain ⟨hWs, hBW⟩ := trial_box gb G mk f s w W0 HG.out hW
 have HBW : Hid _ := hBW
 clear hW hBW
 refine (HLA _).mono ?_
 rintro e w1 ⟨gl, cap, rfl, hL, hb1⟩
 have HB1 : Hid (Below (w.heap.size + 1) W0 w1) := hb1.mono (by omega)
 obtain ⟨a1, b1, c1, hG1, -⟩ := HBW.out _ HB1.out
 have HL1 : Hid (Lr w1 gl ls) := hL
 have HG1 : Hid (Gm w1 gb G mk) := hG1
 have hz1 : w.heap.size < w1.heap.size := by have := hb1.size; omega
 clear hb1 hL hG1
 go_wp2_with fail
 refine (HGO gl cap _ (HG1.out.below ((Below.refl _ _).alloc (Nat.le_refl _) _) HG1.out.lt) (HL1.out.below ((Below.refl _ _).alloc (Nat.le_refl _) _) HL1.out.lt)).mono ?_
 rintro e w2 ⟨rfl, hb2⟩
 have HB2 : Hid (Below w.heap.size w w2) := ((HBW.out _ HB1.out).2.2.2.2.alloc (by omega) _).trans (hb2.mono (by simp; omega))
 clear hb2
 go_wp2_with fail
 go_ret
 exact ⟨rfl, HB2.out⟩
theorem lasso_box (gl cap fr N : Nat) (ls : List Nat) (w W0 : World) (HL : Lr w gl ls)
   (hW : w.alloc (Obj.cells #[Value.slice (some ⟨gl, 0, none⟩) N cap, Value.int IntKind.i64 (fr : Int)] 146) = W0) :
   W0.heap.size = w.heap.size + 1 ∧ Below w.heap.size w W0 ∧ ∀ W, Below (w.heap.size + 1) W0 W -> W.cell? ⟨w.heap.size, 0, none⟩ = some (.slice (some ⟨gl, 0, none⟩) N cap) ∧ W.cell? ⟨w.heap.size, 1, none⟩ = some (.int .i64 (fr : Int)) ∧ Lr W gl ls := by
 have hll := HL.lt
 have hB : Below w.heap.size w W0 := by rw [<- hW]; exact (Below.refl _ _).alloc (Nat.le_refl _) _
 refine ⟨by rw [<- hW]; simp, hB, fun W h => ⟨?_, ?_, (HL.below hB hll).below h (by omega)⟩⟩
 · exact (h.cell (p := ⟨w.heap.size, 0, none⟩) (by show w.heap.size < _; omega)).trans (by rw [<- hW]; simp)
 · exact (h.cell (p := ⟨w.heap.size, 1, none⟩) (by show w.heap.size < _; omega)).trans (by rw [<- hW]; simp)
def lsO (s : ByteArray) (p : Nat) : List Nat := col s (opn s p) (p + 1) (sht s p - p - 1)
theorem all_at {ls : List Nat} {n : Nat} (h : (ls.all fun x => decide (x < n)) = true) : ∀ j, j < ls.length -> ls.getD j 0 < n := by
 intro j hj
 have := List.all_eq_true.1 h (ls.getD j 0) (by rw [List.getD_eq_getElem?_getD, List.getElem?_eq_getElem hj]; exact List.getElem_mem hj)
 simpa using this
theorem way_x (gb st p : Nat) (G : Gph) (mk : Nat -> ByteArray) (f s ft : ByteArray) (w : World) (hs : s.size <= 4000000) (hp : p <= s.size) (hf : f.size <= 1000) (HG : Hid (Gm w gb G mk)) (hyes : LasR s p)
   (hall : ((lsO s p).all fun x => decide (x < G.n)) = true) (hgo : goesL G (fsOf f) (lsO s p) (opn s p - p - 1) = true) (hst : (lsO s p).getD 0 0 = st) (hf1 : 1 < ft.size) (h1 : ft[1].toNat = 88) (fx : ByteArray) (r : Nat -> Nat -> Option Nat) (hx : ft.extract 2 ft.size = fx) (HSH : ShIs gb G mk f s fx r) :
   Calls Tryz.prog 61 #[.agg #[.pointer (some ⟨gb, 0, none⟩), .string f, .string s], .string ft, .int .i64 (st : Int), .int .i64 (p : Int)] w fun e w' => e = .returned (.int .i64 (opI (r ((lsO s p).getD (nxt (lsO s p).length (opn s p - p - 1) 0) 0) (sht s p + 2)))) ∧ Below w.heap.size w w' := by
 have hlen := las_len hyes
 obtain ⟨ls, hls⟩ : ∃ ls, ls = lsO s p := ⟨_, rfl⟩
 obtain ⟨fr, hfr⟩ : ∃ fr, fr = opn s p - p - 1 := ⟨_, rfl⟩
 obtain ⟨q, hq⟩ : ∃ q, q = sht s p + 2 := ⟨_, rfl⟩
 obtain ⟨N, hN⟩ : ∃ N, N = ls.length := ⟨_, rfl⟩
 obtain ⟨R, hR⟩ : ∃ R, R = opI (r (ls.getD (nxt ls.length fr 0) 0) q) := ⟨_, rfl⟩
 have HLA := fun W => las_yesR hs hp hyes hls hN hfr hq W
 rw [<- hls] at hall hgo hst
 rw [<- hfr] at hgo
 rw [<- hls, <- hfr, <- hq, <- hR]
 rw [show col s (opn s p) (p + 1) (sht s p - p - 1) = ls from hls.symm, <- hfr, <- hq] at hlen
 have HALL : Hid (∀ j, j < ls.length -> ls.getD j 0 < G.n) := all_at hall
 have hn2 : ((ls.all fun x => decide (x < G.n)) && (goesL G (fsOf f) ls fr && decide (ls.getD 0 0 = st))) = true := by rw [hall, hgo, hst]; simp
 have HGO : ∀ (gl cap : Nat) (W : World), Hid (Gm W gb G mk) -> Hid (Lr W gl ls) -> Calls Tryz.prog 90 #[.pointer (some ⟨gb, 0, none⟩), .agg #[.slice (some ⟨gl, 0, none⟩) N cap, .int .i64 (fr : Int)], .string f, .int .i64 (st : Int)] W fun e w' => e = .returned (.bool true) ∧ Below W.heap.size W w' := by
   intro gl cap W h1 h2
   have := goes_R gb gl cap fr st ls G mk f W hf hlen.1 hlen.2.1 h1 h2
   rw [hn2, <- hN] at this
   exact this
 obtain ⟨x, hx1⟩ : ∃ x, x = ls.getD (nxt ls.length fr 0) 0 := ⟨_, rfl⟩
 have hxn : x < G.n := by rw [hx1]; exact HALL.out _ (nxt_lt hlen.2.1 (by have := hlen.2.1; omega))
 have HAT : ∀ (gl cap : Nat) (W : World), Hid (Lr W gl ls) -> Calls Tryz.prog 91 #[.agg #[.slice (some ⟨gl, 0, none⟩) N cap, .int .i64 (fr : Int)], .int .i64 1] W fun e w' => e = .returned (.int .i64 (x : Int)) ∧ Below W.heap.size W w' := by
   intro gl cap W h
   have := at_R gl cap fr 1 ls W hlen.1 hlen.2.1 (by have := hlen.2.1; omega) h
   rw [show (if 1 = ls.length then fr else 1) = nxt ls.length fr 0 from rfl, <- hx1, <- hN] at this
   exact this
 have HSX : ∀ W, Hid (Gm W gb G mk) -> Calls Tryz.prog 36 #[.agg #[.pointer (some ⟨gb, 0, none⟩), .string f, .string s], .string fx, .int .i64 (x : Int), .int .i64 (q : Int)] W fun e w' => e = .returned (.int .i64 R) ∧ Below W.heap.size W w' := by
   intro W h
   have := HSH x q W hxn hlen.2.2 h
   rw [hx1, <- hR, <- hx1] at this
   exact this
 clear HSH hx1
 obtain ⟨hN40, hfN, hqs⟩ := hlen
 rw [<- hN] at hN40 hfN
 have HR : Hid (R = opI (r (ls.getD (nxt ls.length fr 0) 0) q)) := hR
 have k1 : (1 : Int) < (ft.size : Int) := by omega
 have k2 : (2 : Int) <= (ft.size : Int) := by omega
 have k0 : (0 : Int) <= (1 : Int) := by omega
 have wr1 : IntKind.i64.wrap 1 = 1 := by decide
 have wr2 : IntKind.i64.wrap 2 = 2 := by decide
 clear hls hfr hq hN hn2 hyes hall hgo hst hR
 go_enter Tryz.func61, Tryz.ntmps61
 go_wp2_with fail
 generalize hW : w.alloc (Obj.cells #[Value.pointer (some ⟨gb, 0, none⟩), Value.string f, Value.string s] 86) = W0
 obtain ⟨hWs, hBW⟩ := trial_box gb G mk f s w W0 HG.out hW
 have HBW : Hid _ := hBW
 clear hW hBW
 refine (HLA _).mono ?_
 rintro e w1 ⟨gl, cap, rfl, hL, hb1⟩
 have HB1 : Hid (Below (w.heap.size + 1) W0 w1) := hb1.mono (by omega)
 obtain ⟨a1, b1, c1, hG1, -⟩ := HBW.out _ HB1.out
 have HL1 : Hid (Lr w1 gl ls) := hL
 have HG1 : Hid (Gm w1 gb G mk) := hG1
 have hz1 : w.heap.size < w1.heap.size := by have := hb1.size; omega
 clear hb1 hL hG1 HLA
 go_wp2_with fail
 generalize hW1 : w1.alloc (Obj.cells #[Value.slice (some ⟨gl, 0, none⟩) N cap, Value.int IntKind.i64 (fr : Int)] 146) = W1
 obtain ⟨hW1s, hB11, hBL⟩ := lasso_box gl cap fr N ls w1 W1 HL1.out hW1
 have HBL : Hid _ := hBL
 have HB3 : Hid (Below (w.heap.size + 1) W0 W1) := HB1.out.trans (hB11.mono (by omega))
 clear hW1 hBL
 refine (HGO gl cap _ (HBW.out _ HB3.out).2.2.2.1 (HBL.out _ (Below.refl _ _)).2.2).mono ?_
 rintro e w2 ⟨rfl, hb2⟩
 have HC2 : Hid (Below (w1.heap.size + 1) W1 w2) := hb2.mono (by omega)
 have HB2 : Hid (Below (w.heap.size + 1) W0 w2) := HB3.out.trans (hb2.mono (by omega))
 obtain ⟨a2, b2, c2, -, -⟩ := HBW.out _ HB2.out
 obtain ⟨d2, e2, -⟩ := HBL.out _ HC2.out
 clear hb2 a1 b1 c1 HGO HB3 HG HG1 HL1
 have hz2 : w1.heap.size + 1 <= w2.heap.size := by have := HC2.out.size; omega
 go_wp2_with fail
 go_region_held3 (fun w' => w'.cell? ⟨w.heap.size, 0, none⟩ = some (.pointer (some ⟨gb, 0, none⟩)) ∧ w'.cell? ⟨w.heap.size, 1, none⟩ = some (.string f) ∧ w'.cell? ⟨w.heap.size, 2, none⟩ = some (.string s) ∧ w'.cell? ⟨w1.heap.size, 0, none⟩ = some (.slice (some ⟨gl, 0, none⟩) N cap) ∧ w'.cell? ⟨w1.heap.size, 1, none⟩ = some (.int .i64 (fr : Int))) (first
     | exact ⟨a2, b2, c2, d2, e2⟩
     | exact ⟨a4, b4, c4, d4, e4⟩
     | exact ⟨a5, b5, c5, d5, e5⟩) (first
   | (go_at_call 91; refine (HAT gl cap _ (show Hid _ from (HBL.out _ HC2.out.drew).2.2)).mono ?_; rintro e w4 ⟨rfl, hb4⟩
      have HC4 : Hid (Below (w1.heap.size + 1) W1 w4) := HC2.out.drew.trans (hb4.mono (by simpa using hz2))
      have HB4 : Hid (Below (w.heap.size + 1) W0 w4) := HB2.out.drew.trans (hb4.mono (by simp; omega))
      obtain ⟨a4, b4, c4, hG4, -⟩ := HBW.out _ HB4.out
      obtain ⟨d4, e4, -⟩ := HBL.out _ HC4.out
      have HG4 : Hid (Gm w4 gb G mk) := hG4
      clear hb4 hG4)
   | (go_at_call 36; refine (HSX _ HG4).mono ?_; rintro e w5 ⟨rfl, hb5⟩
      have HC5 : Hid (Below (w1.heap.size + 1) W1 w5) := HC4.out.trans (hb5.mono (by have := HC4.out.size; omega))
      have HB5 : Hid (Below (w.heap.size + 1) W0 w5) := HB4.out.trans (hb5.mono (by have := HB4.out.size; omega))
      obtain ⟨a5, b5, c5, -, -⟩ := HBW.out _ HB5.out
      obtain ⟨d5, e5, -⟩ := HBL.out _ HC5.out
      clear hb5))
 all_goals
   go_wp2_with fail
   go_ret
   exact ⟨rfl, (HBW.out _ HB5.out).2.2.2.2⟩
end Go.Proofs.YtcfbfdjmcabnkabGreat
