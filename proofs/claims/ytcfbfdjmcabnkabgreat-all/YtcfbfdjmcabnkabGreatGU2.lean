import Derived.Test.YtcfbfdjmcabnkabGreatGT1
import Derived.Test.YtcfbfdjmcabnkabGreatGU1
import Derived.Test.YtcfbfdjmcabnkabGreatG9
set_option maxRecDepth 100000
set_option maxHeartbeats 2000000
namespace Go.Proofs.YtcfbfdjmcabnkabGreat
open Go.RowKit Fw
open Go.Deep (BT)
set_option linter.unusedVariables false
theorem ends_R (gb gl cap fr p : Nat) (ls : List Nat) (G : Gph) (mk : Nat -> ByteArray) (f s X Y : ByteArray) (F H : Nat -> Nat -> Option Nat) (w : World) (hs : s.size <= 4000000) (hp : p <= s.size) (hl : ls.length <= 40) (HG : Hid (Gm w gb G mk)) (HL : Hid (Lr w gl ls)) (HALL : Hid (∀ j, j < ls.length -> ls.getD j 0 < G.n))
   (HX : ShIs gb G mk f s X F) (HY : ShIs gb G mk f s Y H) (hF : ∀ x a q, a <= s.size -> F x a = some q -> q <= s.size) (h0 : 0 < ls.length) :
   Calls Tryz.prog 92 #[.agg #[.pointer (some ⟨gb, 0, none⟩), .string f, .string s], .string X, .string Y, .agg #[.slice (some ⟨gl, 0, none⟩) ls.length cap, .int .i64 (fr : Int)], .int .i64 (p : Int), .int .i64 1] w fun e w' => e = .returned (.int .i64 (opI (endsR F H s ls p))) ∧ Below w.heap.size w w' := by
 have hgl := HG.out.lt
 have hll := HL.out.lt
 obtain ⟨R, hR⟩ : ∃ R, R = opI (endsR F H s ls p) := ⟨_, rfl⟩
 have HR : Hid (R = opI (endsR F H s ls p)) := hR
 rw [<- hR]
 clear hR
 obtain ⟨N, hN⟩ : ∃ N, N = ls.length := ⟨_, rfl⟩
 have HN : Hid (N = ls.length) := hN
 rw [<- hN] at hl h0 ⊢
 clear hN
 go_enter Tryz.func92, Tryz.ntmps92
 go_wp2_with fail
 generalize hW : (w.alloc (Obj.cells #[Value.pointer (some ⟨gb, 0, none⟩), Value.string f, Value.string s] 86)).alloc (Obj.cells #[Value.slice (some ⟨gl, 0, none⟩) N cap, Value.int IntKind.i64 (fr : Int)] 146) = W0
 obtain ⟨hWs, hBW⟩ := ends_box gb gl cap fr N ls G mk f s w W0 HG.out HL.out hW
 have HBW : Hid _ := hBW
 clear hW hBW
 have HIS : ∀ (c : Nat) (C : Int) (b : Bool) (m : Nat) (W : World), C = (c : Int) -> c < 256 -> m <= 4000001 -> isAt s m c = b -> Hid (Below (w.heap.size + 2) W0 W) -> Calls Tryz.prog 62 #[.agg #[.pointer (some ⟨gb, 0, none⟩), .string f, .string s], .int .i64 (m : Int), .int .u8 C] W fun e w' => e = .returned (.bool b) ∧ Below W.heap.size W w' := by
   intro c C b m W h1 h2 hm h3 _
   rw [<- h3]
   exact is_lit gb f s m c C h1 W hs hm h2
 have HSX : ∀ (x m : Nat) (W : World), x < G.n -> m < s.size -> Hid (Below (w.heap.size + 2) W0 W) -> Calls Tryz.prog 36 #[.agg #[.pointer (some ⟨gb, 0, none⟩), .string f, .string s], .string X, .int .i64 (x : Int), .int .i64 ((m : Int) + 1)] W fun e w' => e = .returned (.int .i64 (opI (F x (m + 1)))) ∧ Below W.heap.size W w' := by
   intro x m W h1 h2 h4
   have := HX x (m + 1) W h1 h2 (HBW.out _ h4.out).2.2.2.2.1
   simpa using this
 have HSY : ∀ (x m : Nat) (W : World), x < G.n -> m < s.size -> Hid (Below (w.heap.size + 2) W0 W) -> Calls Tryz.prog 36 #[.agg #[.pointer (some ⟨gb, 0, none⟩), .string f, .string s], .string Y, .int .i64 (x : Int), .int .i64 ((m : Int) + 1)] W fun e w' => e = .returned (.int .i64 (opI (H x (m + 1)))) ∧ Below W.heap.size W w' := by
   intro x m W h1 h2 h4
   have := HY x (m + 1) W h1 h2 (HBW.out _ h4.out).2.2.2.2.1
   simpa using this
 have HF : Hid (∀ x a q, a <= s.size -> F x a = some q -> q <= s.size) := hF
 clear HX HY HG HL hF
 go_loopw [4, 13] (fun a q wr => ∃ n m : Nat, a = .int .i64 m ∧ q = .int .i64 n ∧ m <= s.size ∧ n <= N ∧ Hid (Below (w.heap.size + 2) W0 wr) ∧ Hid (PlcInv F s ls p n m)) (fun _ q _ => N - (intOf q).toNat)
 case atStart => exact ⟨0, p, rfl, rfl, hp, by omega, Below.refl _ _, PlcInv.start _ _ _ _⟩
 case round =>
   obtain ⟨n, m, rfl, rfl, hm, hn, HB1, HP⟩ := hrel
   obtain ⟨a1, b1, c1, d1, -, hL1, -⟩ := HBW.out _ HB1.out
   have wm : IntKind.i64.wrap ((m : Int) + 1) = (m : Int) + 1 := wrap_small _ (by omega) (by omega)
   have m0 : ¬ (m : Int) < 0 := by omega
   have wn : IntKind.i64.wrap (n : Int) = (n : Int) := wrap_small _ (by omega) (by omega)
   have wneg : IntKind.i64.wrap (-1) = -1 := by decide
   have n0 : (0 : Int) <= (n : Int) := by omega
   cases h1 : isAt s m 44 with
   | true =>
     have hlt := isAt_lt h1
     by_cases hnN : n < N
     · have hnN2 : (n : Int) < (N : Int) := by omega
       have hnl : n < ls.length := by rw [<- HN.out]; exact hnN
       obtain ⟨x, hx⟩ : ∃ x, x = ls.getD n 0 := ⟨_, rfl⟩
       have hxn : x < G.n := by rw [hx]; exact HALL.out n hnl
       cases h2 : F x (m + 1) with
       | none =>
         have HR2 : Hid (R = -1) := by show _ = _; rw [HR.out, endsR, HP.out.bad hnl h1 (by rw [<- hx]; exact h2)]; rfl
         have HC : ∀ W, Hid (Below (w.heap.size + 2) W0 W) -> Calls Tryz.prog 36 #[.agg #[.pointer (some ⟨gb, 0, none⟩), .string f, .string s], .string X, .int .i64 (x : Int), .int .i64 ((m : Int) + 1)] W fun e w' => e = .returned (.int .i64 (-1)) ∧ Below W.heap.size W w' := fun W h => by have := HSX x m W hxn hlt h; rw [h2] at this; exact this
         go_wp2_with fail
         have HI2 := HIS 44 44 true m _ rfl (by omega) (by omega) h1 HB1
         refine HI2.mono ?_
         rintro e w2 ⟨rfl, hb2⟩
         have HB2 : Hid (Below (w.heap.size + 2) W0 w2) := HB1.out.trans (hb2.mono (by have := HB1.out.size; omega))
         obtain ⟨a2, b2, c2, d2, -, hL2, -⟩ := HBW.out _ HB2.out
         have hz2 : w.heap.size + 2 <= w2.heap.size := by have := HB2.out.size; omega
         clear hb2 a1 b1 c1 d1 HI2
         have hdc2 := d2
         have cx := hL2.c n hnl
         rw [<- hx] at cx
         have hsz : w.heap.size + 2 <= w2.heap.size := by have := HB2.out.size; omega
         have hglz : gl < w2.heap.size := by omega
         clear hx hL2 hL1 HSX HSY HIS
         go_wp2_with fail
         go_region_held3 (fun w' => w'.cell? ⟨w.heap.size, 0, none⟩ = some (.pointer (some ⟨gb, 0, none⟩)) ∧ w'.cell? ⟨w.heap.size, 1, none⟩ = some (.string f) ∧ w'.cell? ⟨w.heap.size, 2, none⟩ = some (.string s) ∧ w'.cell? ⟨w.heap.size + 1, 0, none⟩ = some (.slice (some ⟨gl, 0, none⟩) N cap) ∧ w'.cell? ⟨gl, n, none⟩ = some (.int .i64 (x : Int))) (first
             | exact ⟨a2, b2, c2, d2, cx⟩
             | exact ⟨a3, b3, c3, d3, cy⟩) (first
           | (go_at_call 36; refine (HC _ (show Hid _ from HB2.out.drew)).mono ?_; rintro e w3 ⟨rfl, hb3⟩
              have HB3 : Hid (Below (w.heap.size + 2) W0 w3) := HB2.out.drew.trans (hb3.mono hsz)
              obtain ⟨a3, b3, c3, d3, -, hL3, -⟩ := HBW.out _ HB3.out
              have cy := (hb3.cell (p := ⟨gl, n, none⟩) hglz).trans cx
              clear hb3 hL3))
         all_goals
           go_wp2_with fail
           go_ret
           exact ⟨by rw [HR2.out]; rfl, (HBW.out _ HB3.out).2.2.2.2.2.2⟩
       | some q =>
         have hq := HF.out x (m + 1) q hlt h2
         have HP2 : Hid (PlcInv F s ls p (n + 1) q) := HP.out.step hnl h1 (by rw [<- hx]; exact h2)
         have q0 : ¬ (q : Int) < 0 := by omega
         have HC : ∀ W, Hid (Below (w.heap.size + 2) W0 W) -> Calls Tryz.prog 36 #[.agg #[.pointer (some ⟨gb, 0, none⟩), .string f, .string s], .string X, .int .i64 (x : Int), .int .i64 ((m : Int) + 1)] W fun e w' => e = .returned (.int .i64 (q : Int)) ∧ Below W.heap.size W w' := fun W h => by have := HSX x m W hxn hlt h; rw [h2] at this; exact this
         go_wp2_with fail
         have HI2 := HIS 44 44 true m _ rfl (by omega) (by omega) h1 HB1
         refine HI2.mono ?_
         rintro e w2 ⟨rfl, hb2⟩
         have HB2 : Hid (Below (w.heap.size + 2) W0 w2) := HB1.out.trans (hb2.mono (by have := HB1.out.size; omega))
         obtain ⟨a2, b2, c2, d2, -, hL2, -⟩ := HBW.out _ HB2.out
         have hz2 : w.heap.size + 2 <= w2.heap.size := by have := HB2.out.size; omega
         clear hb2 a1 b1 c1 d1 HI2
         have hdc2 := d2
         have cx := hL2.c n hnl
         rw [<- hx] at cx
         have hsz : w.heap.size + 2 <= w2.heap.size := by have := HB2.out.size; omega
         have hglz : gl < w2.heap.size := by omega
         clear hx hL2 hL1 HSX HSY HIS
         go_wp2_with fail
         go_region_held3 (fun w' => w'.cell? ⟨w.heap.size, 0, none⟩ = some (.pointer (some ⟨gb, 0, none⟩)) ∧ w'.cell? ⟨w.heap.size, 1, none⟩ = some (.string f) ∧ w'.cell? ⟨w.heap.size, 2, none⟩ = some (.string s) ∧ w'.cell? ⟨w.heap.size + 1, 0, none⟩ = some (.slice (some ⟨gl, 0, none⟩) N cap) ∧ w'.cell? ⟨gl, n, none⟩ = some (.int .i64 (x : Int))) (first
             | exact ⟨a2, b2, c2, d2, cx⟩
             | exact ⟨a3, b3, c3, d3, cy⟩) (first
           | (go_at_call 36; refine (HC _ (show Hid _ from HB2.out.drew)).mono ?_; rintro e w3 ⟨rfl, hb3⟩
              have HB3 : Hid (Below (w.heap.size + 2) W0 w3) := HB2.out.drew.trans (hb3.mono hsz)
              obtain ⟨a3, b3, c3, d3, -, hL3, -⟩ := HBW.out _ HB3.out
              have cy := (hb3.cell (p := ⟨gl, n, none⟩) hglz).trans cx
              clear hb3 hL3))
         all_goals
           go_wp2_with fail
           go_roundw
           case rel => exact ⟨n + 1, q, rfl, by go_num, hq, by omega, HB3, HP2⟩
           case measure => simp [intOf]; omega
     · have hnN2 : ¬ (n : Int) < (N : Int) := by omega
       have HPL : Hid (plc F s ls p = some (n, m)) := by
         show _ = _
         have e : n = ls.length := by rw [<- HN.out]; omega
         have := HP.out
         rw [e] at this ⊢
         exact this.full
       clear hL1
       go_wp2_with fail
       have HI2 := HIS 44 44 true m _ rfl (by omega) (by omega) h1 HB1
       refine HI2.mono ?_
       rintro e w2 ⟨rfl, hb2⟩
       have HB2 : Hid (Below (w.heap.size + 2) W0 w2) := HB1.out.trans (hb2.mono (by have := HB1.out.size; omega))
       obtain ⟨a2, b2, c2, d2, -, hL2, -⟩ := HBW.out _ HB2.out
       have hz2 : w.heap.size + 2 <= w2.heap.size := by have := HB2.out.size; omega
       clear hb2 a1 b1 c1 d1 HI2
       have hdc2 := d2
       by_cases hnN : n = N
       · have hnN2 : ((n : Int) == (N : Int)) = true := by rw [beq_iff_eq]; omega
         have hn0 : ¬ n = 0 := by have := HN.out; omega
         cases h4 : isAt s m 111 with
         | true =>
           have HR2 : Hid (R = (m : Int) + 1) := by show _ = _; rw [HR.out, endsR, HPL.out]; simp only; rw [if_neg hn0, if_pos h4, if_pos (by rw [<- HN.out]; exact hnN)]; simp [opI]
           clear hnN hn0
           go_wp2_with fail
           have HI3 := HIS 111 111 true m _ rfl (by omega) (by omega) h4 HB2
           refine HI3.mono ?_
           rintro e w3 ⟨rfl, hb3⟩
           have HB3 : Hid (Below (w.heap.size + 2) W0 w3) := HB2.out.trans (hb3.mono (by have := HB2.out.size; omega))
           obtain ⟨a3, b3, c3, d3, -, hL3, -⟩ := HBW.out _ HB3.out
           have hz3 : w.heap.size + 2 <= w3.heap.size := by have := HB3.out.size; omega
           clear hb3 a2 b2 c2 d2 HI3
           have hdc3 := d3
           go_wp2_with fail
           go_ret
           exact ⟨by rw [HR2.out]; rfl, (HBW.out _ HB3.out).2.2.2.2.2.2⟩
         | false =>
           have HNN : Hid (n = N) := hnN
           clear hnN
           go_wp2_with fail
           have HI3 := HIS 111 111 false m _ rfl (by omega) (by omega) h4 HB2
           refine HI3.mono ?_
           rintro e w3 ⟨rfl, hb3⟩
           have HB3 : Hid (Below (w.heap.size + 2) W0 w3) := HB2.out.trans (hb3.mono (by have := HB2.out.size; omega))
           obtain ⟨a3, b3, c3, d3, -, hL3, -⟩ := HBW.out _ HB3.out
           have hz3 : w.heap.size + 2 <= w3.heap.size := by have := HB3.out.size; omega
           clear hb3 a2 b2 c2 d2 HI3
           have hdc3 := d3
           cases h3 : isAt s m 45 with
           | false =>
             have HR2 : Hid (R = -1) := by show _ = _; rw [HR.out, endsR, HPL.out]; simp only; rw [if_neg hn0, if_neg (by rw [h4]; simp), if_neg (by rw [h3]; simp)]; rfl
             go_wp2_with fail
             have HI4 := HIS 45 45 false m _ rfl (by omega) (by omega) h3 HB3
             refine HI4.mono ?_
             rintro e w4 ⟨rfl, hb4⟩
             have HB4 : Hid (Below (w.heap.size + 2) W0 w4) := HB3.out.trans (hb4.mono (by have := HB3.out.size; omega))
             obtain ⟨a4, b4, c4, d4, -, hL4, -⟩ := HBW.out _ HB4.out
             have hz4 : w.heap.size + 2 <= w4.heap.size := by have := HB4.out.size; omega
             clear hb4 a3 b3 c3 d3 HI4
             have hdc4 := d4
             go_wp2_with fail
             go_ret
             exact ⟨by rw [HR2.out]; rfl, (HBW.out _ HB4.out).2.2.2.2.2.2⟩
           | true =>
             have hlt3 := isAt_lt h3
             have h5 : isAt s m 111 = false := isAt_one h3 (by omega)
             by_cases hn0 : n = 0
             · have HR2 : Hid (R = -1) := by show _ = _; rw [HR.out, endsR, HPL.out]; simp only; rw [if_pos hn0]; rfl
               have wk0 : IntKind.i64.wrap ((n : Int) - 1) = -1 := by rw [hn0]; decide
               clear hn0
               go_wp2_with fail
               have HI4 := HIS 45 45 true m _ rfl (by omega) (by omega) h3 HB3
               refine HI4.mono ?_
               rintro e w4 ⟨rfl, hb4⟩
               have HB4 : Hid (Below (w.heap.size + 2) W0 w4) := HB3.out.trans (hb4.mono (by have := HB3.out.size; omega))
               obtain ⟨a4, b4, c4, d4, -, hL4, -⟩ := HBW.out _ HB4.out
               have hz4 : w.heap.size + 2 <= w4.heap.size := by have := HB4.out.size; omega
               clear hb4 a3 b3 c3 d3 HI4
               have hdc4 := d4
               go_wp2_with fail
               go_ret
               exact ⟨by rw [HR2.out]; rfl, (HBW.out _ HB4.out).2.2.2.2.2.2⟩
             · obtain ⟨k, hk⟩ : ∃ k, k = n - 1 := ⟨_, rfl⟩
               have wk : IntKind.i64.wrap ((n : Int) - 1) = (k : Int) := by rw [show (n : Int) - 1 = (k : Int) from by omega]; exact wrap_small _ (by omega) (by omega)
               have k0 : ¬ (k : Int) < 0 := by omega
               have k00 : (0 : Int) <= (k : Int) := by omega
               have k1 : ¬ (N : Int) <= (k : Int) := by omega
               have k11 : (k : Int) < (N : Int) := by omega
               have hnl : k < ls.length := by rw [<- HN.out]; omega
               obtain ⟨x, hx⟩ : ∃ x, x = ls.getD k 0 := ⟨_, rfl⟩
               have hxn : x < G.n := by rw [hx]; exact HALL.out k hnl
               have HR2 : Hid (R = opI (H x (m + 1))) := by show _ = _; rw [HR.out, endsR, HPL.out]; simp only; rw [if_neg hn0, if_neg (by rw [h5]; simp), if_pos h3, hx, hk]
               obtain ⟨r, hr⟩ : ∃ r, r = opI (H x (m + 1)) := ⟨_, rfl⟩
               rw [<- hr] at HR2
               have HC : ∀ W, Hid (Below (w.heap.size + 2) W0 W) -> Calls Tryz.prog 36 #[.agg #[.pointer (some ⟨gb, 0, none⟩), .string f, .string s], .string Y, .int .i64 (x : Int), .int .i64 ((m : Int) + 1)] W fun e w' => e = .returned (.int .i64 r) ∧ Below W.heap.size W w' := fun W h => by rw [hr]; exact HSY x m W hxn hlt3 h
               clear hk
               go_wp2_with fail
               have HI4 := HIS 45 45 true m _ rfl (by omega) (by omega) h3 HB3
               refine HI4.mono ?_
               rintro e w4 ⟨rfl, hb4⟩
               have HB4 : Hid (Below (w.heap.size + 2) W0 w4) := HB3.out.trans (hb4.mono (by have := HB3.out.size; omega))
               obtain ⟨a4, b4, c4, d4, -, hL4, -⟩ := HBW.out _ HB4.out
               have hz4 : w.heap.size + 2 <= w4.heap.size := by have := HB4.out.size; omega
               clear hb4 a3 b3 c3 d3 HI4
               have hdc4 := d4
               have cx := hL4.c k hnl
               rw [<- hx] at cx
               have hsz : w.heap.size + 2 <= w4.heap.size := by have := HB4.out.size; omega
               have hglz : gl < w4.heap.size := by omega
               clear hx hr hL4
               go_wp2_with fail
               go_region_held3 (fun w' => w'.cell? ⟨w.heap.size, 0, none⟩ = some (.pointer (some ⟨gb, 0, none⟩)) ∧ w'.cell? ⟨w.heap.size, 1, none⟩ = some (.string f) ∧ w'.cell? ⟨w.heap.size, 2, none⟩ = some (.string s) ∧ w'.cell? ⟨w.heap.size + 1, 0, none⟩ = some (.slice (some ⟨gl, 0, none⟩) N cap) ∧ w'.cell? ⟨gl, k, none⟩ = some (.int .i64 (x : Int))) (first
                   | exact ⟨a4, b4, c4, d4, cx⟩
                   | exact ⟨a5, b5, c5, d5, cy⟩) (first
                 | (go_at_call 36; refine (HC _ (show Hid _ from HB4.out.drew)).mono ?_; rintro e w5 ⟨rfl, hb5⟩
                    have HB5 : Hid (Below (w.heap.size + 2) W0 w5) := HB4.out.drew.trans (hb5.mono hsz)
                    obtain ⟨a5, b5, c5, d5, -, hL5, -⟩ := HBW.out _ HB5.out
                    have cy := (hb5.cell (p := ⟨gl, k, none⟩) hglz).trans cx
                    clear hb5 hL5))
               all_goals
                 go_wp2_with fail
                 go_ret
                 exact ⟨by rw [HR2.out]; rfl, (HBW.out _ HB5.out).2.2.2.2.2.2⟩
       · exfalso; omega
   | false =>
     have HPL : Hid (plc F s ls p = some (n, m)) := by
       show _ = _
       by_cases h : n < ls.length
       · exact HP.out.stop h h1
       · have e : n = ls.length := by have := HN.out; omega
         have := HP.out
         rw [e] at this ⊢
         exact this.full
     clear hL1
     go_wp2_with fail
     have HI2 := HIS 44 44 false m _ rfl (by omega) (by omega) h1 HB1
     refine HI2.mono ?_
     rintro e w2 ⟨rfl, hb2⟩
     have HB2 : Hid (Below (w.heap.size + 2) W0 w2) := HB1.out.trans (hb2.mono (by have := HB1.out.size; omega))
     obtain ⟨a2, b2, c2, d2, -, hL2, -⟩ := HBW.out _ HB2.out
     have hz2 : w.heap.size + 2 <= w2.heap.size := by have := HB2.out.size; omega
     clear hb2 a1 b1 c1 d1 HI2
     have hdc2 := d2
     by_cases hnN : n = N
     · have hnN2 : ((n : Int) == (N : Int)) = true := by rw [beq_iff_eq]; omega
       have hn0 : ¬ n = 0 := by have := HN.out; omega
       cases h4 : isAt s m 111 with
       | true =>
         have HR2 : Hid (R = (m : Int) + 1) := by show _ = _; rw [HR.out, endsR, HPL.out]; simp only; rw [if_neg hn0, if_pos h4, if_pos (by rw [<- HN.out]; exact hnN)]; simp [opI]
         clear hnN hn0
         go_wp2_with fail
         have HI3 := HIS 111 111 true m _ rfl (by omega) (by omega) h4 HB2
         refine HI3.mono ?_
         rintro e w3 ⟨rfl, hb3⟩
         have HB3 : Hid (Below (w.heap.size + 2) W0 w3) := HB2.out.trans (hb3.mono (by have := HB2.out.size; omega))
         obtain ⟨a3, b3, c3, d3, -, hL3, -⟩ := HBW.out _ HB3.out
         have hz3 : w.heap.size + 2 <= w3.heap.size := by have := HB3.out.size; omega
         clear hb3 a2 b2 c2 d2 HI3
         have hdc3 := d3
         go_wp2_with fail
         go_ret
         exact ⟨by rw [HR2.out]; rfl, (HBW.out _ HB3.out).2.2.2.2.2.2⟩
       | false =>
         have HNN : Hid (n = N) := hnN
         clear hnN
         go_wp2_with fail
         have HI3 := HIS 111 111 false m _ rfl (by omega) (by omega) h4 HB2
         refine HI3.mono ?_
         rintro e w3 ⟨rfl, hb3⟩
         have HB3 : Hid (Below (w.heap.size + 2) W0 w3) := HB2.out.trans (hb3.mono (by have := HB2.out.size; omega))
         obtain ⟨a3, b3, c3, d3, -, hL3, -⟩ := HBW.out _ HB3.out
         have hz3 : w.heap.size + 2 <= w3.heap.size := by have := HB3.out.size; omega
         clear hb3 a2 b2 c2 d2 HI3
         have hdc3 := d3
         cases h3 : isAt s m 45 with
         | false =>
           have HR2 : Hid (R = -1) := by show _ = _; rw [HR.out, endsR, HPL.out]; simp only; rw [if_neg hn0, if_neg (by rw [h4]; simp), if_neg (by rw [h3]; simp)]; rfl
           go_wp2_with fail
           have HI4 := HIS 45 45 false m _ rfl (by omega) (by omega) h3 HB3
           refine HI4.mono ?_
           rintro e w4 ⟨rfl, hb4⟩
           have HB4 : Hid (Below (w.heap.size + 2) W0 w4) := HB3.out.trans (hb4.mono (by have := HB3.out.size; omega))
           obtain ⟨a4, b4, c4, d4, -, hL4, -⟩ := HBW.out _ HB4.out
           have hz4 : w.heap.size + 2 <= w4.heap.size := by have := HB4.out.size; omega
           clear hb4 a3 b3 c3 d3 HI4
           have hdc4 := d4
           go_wp2_with fail
           go_ret
           exact ⟨by rw [HR2.out]; rfl, (HBW.out _ HB4.out).2.2.2.2.2.2⟩
         | true =>
           have hlt3 := isAt_lt h3
           have h5 : isAt s m 111 = false := isAt_one h3 (by omega)
           by_cases hn0 : n = 0
           · have HR2 : Hid (R = -1) := by show _ = _; rw [HR.out, endsR, HPL.out]; simp only; rw [if_pos hn0]; rfl
             have wk0 : IntKind.i64.wrap ((n : Int) - 1) = -1 := by rw [hn0]; decide
             clear hn0
             go_wp2_with fail
             have HI4 := HIS 45 45 true m _ rfl (by omega) (by omega) h3 HB3
             refine HI4.mono ?_
             rintro e w4 ⟨rfl, hb4⟩
             have HB4 : Hid (Below (w.heap.size + 2) W0 w4) := HB3.out.trans (hb4.mono (by have := HB3.out.size; omega))
             obtain ⟨a4, b4, c4, d4, -, hL4, -⟩ := HBW.out _ HB4.out
             have hz4 : w.heap.size + 2 <= w4.heap.size := by have := HB4.out.size; omega
             clear hb4 a3 b3 c3 d3 HI4
             have hdc4 := d4
             go_wp2_with fail
             go_ret
             exact ⟨by rw [HR2.out]; rfl, (HBW.out _ HB4.out).2.2.2.2.2.2⟩
           · obtain ⟨k, hk⟩ : ∃ k, k = n - 1 := ⟨_, rfl⟩
             have wk : IntKind.i64.wrap ((n : Int) - 1) = (k : Int) := by rw [show (n : Int) - 1 = (k : Int) from by omega]; exact wrap_small _ (by omega) (by omega)
             have k0 : ¬ (k : Int) < 0 := by omega
             have k00 : (0 : Int) <= (k : Int) := by omega
             have k1 : ¬ (N : Int) <= (k : Int) := by omega
             have k11 : (k : Int) < (N : Int) := by omega
             have hnl : k < ls.length := by rw [<- HN.out]; omega
             obtain ⟨x, hx⟩ : ∃ x, x = ls.getD k 0 := ⟨_, rfl⟩
             have hxn : x < G.n := by rw [hx]; exact HALL.out k hnl
             have HR2 : Hid (R = opI (H x (m + 1))) := by show _ = _; rw [HR.out, endsR, HPL.out]; simp only; rw [if_neg hn0, if_neg (by rw [h5]; simp), if_pos h3, hx, hk]
             obtain ⟨r, hr⟩ : ∃ r, r = opI (H x (m + 1)) := ⟨_, rfl⟩
             rw [<- hr] at HR2
             have HC : ∀ W, Hid (Below (w.heap.size + 2) W0 W) -> Calls Tryz.prog 36 #[.agg #[.pointer (some ⟨gb, 0, none⟩), .string f, .string s], .string Y, .int .i64 (x : Int), .int .i64 ((m : Int) + 1)] W fun e w' => e = .returned (.int .i64 r) ∧ Below W.heap.size W w' := fun W h => by rw [hr]; exact HSY x m W hxn hlt3 h
             clear hk
             go_wp2_with fail
             have HI4 := HIS 45 45 true m _ rfl (by omega) (by omega) h3 HB3
             refine HI4.mono ?_
             rintro e w4 ⟨rfl, hb4⟩
             have HB4 : Hid (Below (w.heap.size + 2) W0 w4) := HB3.out.trans (hb4.mono (by have := HB3.out.size; omega))
             obtain ⟨a4, b4, c4, d4, -, hL4, -⟩ := HBW.out _ HB4.out
             have hz4 : w.heap.size + 2 <= w4.heap.size := by have := HB4.out.size; omega
             clear hb4 a3 b3 c3 d3 HI4
             have hdc4 := d4
             have cx := hL4.c k hnl
             rw [<- hx] at cx
             have hsz : w.heap.size + 2 <= w4.heap.size := by have := HB4.out.size; omega
             have hglz : gl < w4.heap.size := by omega
             clear hx hr hL4
             go_wp2_with fail
             go_region_held3 (fun w' => w'.cell? ⟨w.heap.size, 0, none⟩ = some (.pointer (some ⟨gb, 0, none⟩)) ∧ w'.cell? ⟨w.heap.size, 1, none⟩ = some (.string f) ∧ w'.cell? ⟨w.heap.size, 2, none⟩ = some (.string s) ∧ w'.cell? ⟨w.heap.size + 1, 0, none⟩ = some (.slice (some ⟨gl, 0, none⟩) N cap) ∧ w'.cell? ⟨gl, k, none⟩ = some (.int .i64 (x : Int))) (first
                 | exact ⟨a4, b4, c4, d4, cx⟩
                 | exact ⟨a5, b5, c5, d5, cy⟩) (first
               | (go_at_call 36; refine (HC _ (show Hid _ from HB4.out.drew)).mono ?_; rintro e w5 ⟨rfl, hb5⟩
                  have HB5 : Hid (Below (w.heap.size + 2) W0 w5) := HB4.out.drew.trans (hb5.mono hsz)
                  obtain ⟨a5, b5, c5, d5, -, hL5, -⟩ := HBW.out _ HB5.out
                  have cy := (hb5.cell (p := ⟨gl, k, none⟩) hglz).trans cx
                  clear hb5 hL5))
             all_goals
               go_wp2_with fail
               go_ret
               exact ⟨by rw [HR2.out]; rfl, (HBW.out _ HB5.out).2.2.2.2.2.2⟩
     · have hnN2 : ((n : Int) == (N : Int)) = false := by rw [beq_eq_false_iff_ne]; omega
       cases h3 : isAt s m 45 with
       | false =>
         have HR2 : Hid (R = -1) := by show _ = _; rw [HR.out, endsR, HPL.out]; simp only; split; rfl; split; rw [if_neg (by rw [<- HN.out]; exact hnN)]; rfl; rw [if_neg (by rw [h3]; simp)]; rfl
         go_wp2_with fail
         have HI3 := HIS 45 45 false m _ rfl (by omega) (by omega) h3 HB2
         refine HI3.mono ?_
         rintro e w3 ⟨rfl, hb3⟩
         have HB3 : Hid (Below (w.heap.size + 2) W0 w3) := HB2.out.trans (hb3.mono (by have := HB2.out.size; omega))
         obtain ⟨a3, b3, c3, d3, -, hL3, -⟩ := HBW.out _ HB3.out
         have hz3 : w.heap.size + 2 <= w3.heap.size := by have := HB3.out.size; omega
         clear hb3 a2 b2 c2 d2 HI3
         have hdc3 := d3
         go_wp2_with fail
         go_ret
         exact ⟨by rw [HR2.out]; rfl, (HBW.out _ HB3.out).2.2.2.2.2.2⟩
       | true =>
         have hlt3 := isAt_lt h3
         have h5 : isAt s m 111 = false := isAt_one h3 (by omega)
         by_cases hn0 : n = 0
         · have HR2 : Hid (R = -1) := by show _ = _; rw [HR.out, endsR, HPL.out]; simp only; rw [if_pos hn0]; rfl
           have wk0 : IntKind.i64.wrap ((n : Int) - 1) = -1 := by rw [hn0]; decide
           clear hn0
           go_wp2_with fail
           have HI3 := HIS 45 45 true m _ rfl (by omega) (by omega) h3 HB2
           refine HI3.mono ?_
           rintro e w3 ⟨rfl, hb3⟩
           have HB3 : Hid (Below (w.heap.size + 2) W0 w3) := HB2.out.trans (hb3.mono (by have := HB2.out.size; omega))
           obtain ⟨a3, b3, c3, d3, -, hL3, -⟩ := HBW.out _ HB3.out
           have hz3 : w.heap.size + 2 <= w3.heap.size := by have := HB3.out.size; omega
           clear hb3 a2 b2 c2 d2 HI3
           have hdc3 := d3
           go_wp2_with fail
           go_ret
           exact ⟨by rw [HR2.out]; rfl, (HBW.out _ HB3.out).2.2.2.2.2.2⟩
         · obtain ⟨k, hk⟩ : ∃ k, k = n - 1 := ⟨_, rfl⟩
           have wk : IntKind.i64.wrap ((n : Int) - 1) = (k : Int) := by rw [show (n : Int) - 1 = (k : Int) from by omega]; exact wrap_small _ (by omega) (by omega)
           have k0 : ¬ (k : Int) < 0 := by omega
           have k00 : (0 : Int) <= (k : Int) := by omega
           have k1 : ¬ (N : Int) <= (k : Int) := by omega
           have k11 : (k : Int) < (N : Int) := by omega
           have hnl : k < ls.length := by rw [<- HN.out]; omega
           obtain ⟨x, hx⟩ : ∃ x, x = ls.getD k 0 := ⟨_, rfl⟩
           have hxn : x < G.n := by rw [hx]; exact HALL.out k hnl
           have HR2 : Hid (R = opI (H x (m + 1))) := by show _ = _; rw [HR.out, endsR, HPL.out]; simp only; rw [if_neg hn0, if_neg (by rw [h5]; simp), if_pos h3, hx, hk]
           obtain ⟨r, hr⟩ : ∃ r, r = opI (H x (m + 1)) := ⟨_, rfl⟩
           rw [<- hr] at HR2
           have HC : ∀ W, Hid (Below (w.heap.size + 2) W0 W) -> Calls Tryz.prog 36 #[.agg #[.pointer (some ⟨gb, 0, none⟩), .string f, .string s], .string Y, .int .i64 (x : Int), .int .i64 ((m : Int) + 1)] W fun e w' => e = .returned (.int .i64 r) ∧ Below W.heap.size W w' := fun W h => by rw [hr]; exact HSY x m W hxn hlt3 h
           clear hk
           go_wp2_with fail
           have HI3 := HIS 45 45 true m _ rfl (by omega) (by omega) h3 HB2
           refine HI3.mono ?_
           rintro e w3 ⟨rfl, hb3⟩
           have HB3 : Hid (Below (w.heap.size + 2) W0 w3) := HB2.out.trans (hb3.mono (by have := HB2.out.size; omega))
           obtain ⟨a3, b3, c3, d3, -, hL3, -⟩ := HBW.out _ HB3.out
           have hz3 : w.heap.size + 2 <= w3.heap.size := by have := HB3.out.size; omega
           clear hb3 a2 b2 c2 d2 HI3
           have hdc3 := d3
           have cx := hL3.c k hnl
           rw [<- hx] at cx
           have hsz : w.heap.size + 2 <= w3.heap.size := by have := HB3.out.size; omega
           have hglz : gl < w3.heap.size := by omega
           clear hx hr hL3
           go_wp2_with fail
           go_region_held3 (fun w' => w'.cell? ⟨w.heap.size, 0, none⟩ = some (.pointer (some ⟨gb, 0, none⟩)) ∧ w'.cell? ⟨w.heap.size, 1, none⟩ = some (.string f) ∧ w'.cell? ⟨w.heap.size, 2, none⟩ = some (.string s) ∧ w'.cell? ⟨w.heap.size + 1, 0, none⟩ = some (.slice (some ⟨gl, 0, none⟩) N cap) ∧ w'.cell? ⟨gl, k, none⟩ = some (.int .i64 (x : Int))) (first
               | exact ⟨a3, b3, c3, d3, cx⟩
               | exact ⟨a4, b4, c4, d4, cy⟩) (first
             | (go_at_call 36; refine (HC _ (show Hid _ from HB3.out.drew)).mono ?_; rintro e w4 ⟨rfl, hb4⟩
                have HB4 : Hid (Below (w.heap.size + 2) W0 w4) := HB3.out.drew.trans (hb4.mono hsz)
                obtain ⟨a4, b4, c4, d4, -, hL4, -⟩ := HBW.out _ HB4.out
                have cy := (hb4.cell (p := ⟨gl, k, none⟩) hglz).trans cx
                clear hb4 hL4))
           all_goals
             go_wp2_with fail
             go_ret
             exact ⟨by rw [HR2.out]; rfl, (HBW.out _ HB4.out).2.2.2.2.2.2⟩
theorem way_u (gb st p : Nat) (G : Gph) (mk : Nat -> ByteArray) (f s ft : ByteArray) (w : World) (hs : s.size <= 4000000) (hp : p <= s.size) (hf : f.size <= 1000) (HG : Hid (Gm w gb G mk)) (hyes : LasR s p)
   (hall : ((lsO s p).all fun x => decide (x < G.n)) = true) (hgo : goesL G (fsOf f) (lsO s p) (opn s p - p - 1) = true) (hst : (lsO s p).getD 0 0 = st) (hf1 : 1 < ft.size) (h1 : ft[1].toNat = 91) (A B : ByteArray) (F H : Nat -> Nat -> Option Nat) (HQ : PartsIs ft A B 2 85) (HX : ShIs gb G mk f s A F) (HY : ShIs gb G mk f s B H) (hF : ∀ x a q, a <= s.size -> F x a = some q -> q <= s.size) :
   Calls Tryz.prog 61 #[.agg #[.pointer (some ⟨gb, 0, none⟩), .string f, .string s], .string ft, .int .i64 (st : Int), .int .i64 (p : Int)] w fun e w' => e = .returned (.int .i64 (opI (endsU F H s (lsO s p) (sht s p + 2)))) ∧ Below w.heap.size w w' := by
 have hlen := las_len hyes
 obtain ⟨ls, hls⟩ : ∃ ls, ls = lsO s p := ⟨_, rfl⟩
 obtain ⟨fr, hfr⟩ : ∃ fr, fr = opn s p - p - 1 := ⟨_, rfl⟩
 obtain ⟨q, hq⟩ : ∃ q, q = sht s p + 2 := ⟨_, rfl⟩
 obtain ⟨N, hN⟩ : ∃ N, N = ls.length := ⟨_, rfl⟩
 obtain ⟨R, hR⟩ : ∃ R, R = opI (endsU F H s ls q) := ⟨_, rfl⟩
 have HLA := fun W => las_yesR hs hp hyes hls hN hfr hq W
 rw [<- hls] at hall hgo hst
 rw [<- hfr] at hgo
 rw [<- hls, <- hq, <- hR]
 rw [show col s (opn s p) (p + 1) (sht s p - p - 1) = ls from hls.symm, <- hfr, <- hq] at hlen
 have HALL : Hid (∀ j, j < ls.length -> ls.getD j 0 < G.n) := all_at hall
 have hn2 : ((ls.all fun x => decide (x < G.n)) && (goesL G (fsOf f) ls fr && decide (ls.getD 0 0 = st))) = true := by rw [hall, hgo, hst]; simp
 have HGO : ∀ (gl cap : Nat) (W : World), Hid (Gm W gb G mk) -> Hid (Lr W gl ls) -> Calls Tryz.prog 90 #[.pointer (some ⟨gb, 0, none⟩), .agg #[.slice (some ⟨gl, 0, none⟩) N cap, .int .i64 (fr : Int)], .string f, .int .i64 (st : Int)] W fun e w' => e = .returned (.bool true) ∧ Below W.heap.size W w' := by
   intro gl cap W h1 h2
   have := goes_R gb gl cap fr st ls G mk f W hf hlen.1 hlen.2.1 h1 h2
   rw [hn2, <- hN] at this
   exact this
 have HQ1 : ∀ W, Calls Tryz.prog 53 #[.string ft, .int .i64 2] W fun e w' => e = .returned (.tuple #[.string A, .string B, .int .u8 85]) ∧ ∃ n, w' = W.drewN n := fun W => by simpa using HQ W
 have HEN : ∀ (gl cap : Nat) (W : World), Hid (Gm W gb G mk) -> Hid (Lr W gl ls) -> Calls Tryz.prog 92 #[.agg #[.pointer (some ⟨gb, 0, none⟩), .string f, .string s], .string A, .string B, .agg #[.slice (some ⟨gl, 0, none⟩) N cap, .int .i64 (fr : Int)], .int .i64 (q : Int), .int .i64 0] W fun e w' => e = .returned (.int .i64 R) ∧ Below W.heap.size W w' := by
   intro gl cap W h1 h2
   have := ends_U gb gl cap fr q ls G mk f s A B F H W hs hlen.2.2 hlen.1 h1 h2 HALL HX HY hF (by have := hlen.2.1; omega)
   rw [<- hR, <- hN] at this
   exact this
 clear HQ HX HY hF
 obtain ⟨hN40, hfN, hqs⟩ := hlen
 rw [<- hN] at hN40 hfN
 have HR : Hid (R = opI (endsU F H s ls q)) := hR
 have k1 : (1 : Int) < (ft.size : Int) := by omega
 have k2 : (2 : Int) <= (ft.size : Int) := by omega
 have k0 : (0 : Int) <= (1 : Int) := by omega
 have wr1 : IntKind.i64.wrap 1 = 1 := by decide
 have wr2 : IntKind.i64.wrap 2 = 2 := by decide
 clear hls hfr hq hN hn2 hyes hall hgo hst hR
 go_enter Tryz.func61, Tryz.ntmps61
 go_wp2_with fail
 generalize hW : w.alloc (Obj.cells #[Value.pointer (some ⟨gb, 0, none⟩), Value.string f, Value.string s] 86) = W0
 obtain ⟨hWs, hBW⟩ := trial_box gb G mk f s w W0 HG.out hW
 have HBW : Hid _ := hBW
 clear hW hBW
 refine (HLA _).mono ?_
 rintro e w1 ⟨gl, cap, rfl, hL, hb1⟩
 have HB1 : Hid (Below (w.heap.size + 1) W0 w1) := hb1.mono (by omega)
 obtain ⟨a1, b1, c1, hG1, -⟩ := HBW.out _ HB1.out
 have HL1 : Hid (Lr w1 gl ls) := hL
 have HG1 : Hid (Gm w1 gb G mk) := hG1
 have hz1 : w.heap.size < w1.heap.size := by have := hb1.size; omega
 clear hb1 hL hG1 HLA
 go_wp2_with fail
 generalize hW1 : w1.alloc (Obj.cells #[Value.slice (some ⟨gl, 0, none⟩) N cap, Value.int IntKind.i64 (fr : Int)] 146) = W1
 obtain ⟨hW1s, hB11, hBL⟩ := lasso_box gl cap fr N ls w1 W1 HL1.out hW1
 have HBL : Hid _ := hBL
 have HB3 : Hid (Below (w.heap.size + 1) W0 W1) := HB1.out.trans (hB11.mono (by omega))
 clear hW1 hBL
 refine (HGO gl cap _ (HBW.out _ HB3.out).2.2.2.1 (HBL.out _ (Below.refl _ _)).2.2).mono ?_
 rintro e w2 ⟨rfl, hb2⟩
 have HC2 : Hid (Below (w1.heap.size + 1) W1 w2) := hb2.mono (by omega)
 have HB2 : Hid (Below (w.heap.size + 1) W0 w2) := HB3.out.trans (hb2.mono (by omega))
 obtain ⟨a2, b2, c2, -, -⟩ := HBW.out _ HB2.out
 obtain ⟨d2, e2, -⟩ := HBL.out _ HC2.out
 clear hb2 a1 b1 c1 HGO HB3 HG HG1 HL1
 go_wp2_with fail
 refine (HQ1 _).mono ?_
 rintro e w4 ⟨rfl, n4, rfl⟩
 have HC4 : Hid (Below (w1.heap.size + 1) W1 (w2.drewN n4)) := below_drewN HC2.out n4
 have HB4 : Hid (Below (w.heap.size + 1) W0 (w2.drewN n4)) := below_drewN HB2.out n4
 obtain ⟨a4, b4, c4, hG4, -⟩ := HBW.out _ HB4.out
 obtain ⟨d4, e4, hL4⟩ := HBL.out _ HC4.out
 have HG4 : Hid (Gm (w2.drewN n4) gb G mk) := hG4
 have HL4 : Hid (Lr (w2.drewN n4) gl ls) := hL4
 clear hG4 hL4 HQ1
 go_wp2_with fail
 refine (HEN gl cap _ HG4 HL4).mono ?_
 rintro e w5 ⟨rfl, hb5⟩
 have HB5 : Hid (Below w.heap.size w w5) := (HBW.out _ HB4.out).2.2.2.2.trans (hb5.mono (HBW.out _ HB4.out).2.2.2.2.size)
 clear hb5
 go_wp2_with fail
 go_ret
 exact ⟨rfl, HB5.out⟩
theorem way_r (gb st p : Nat) (G : Gph) (mk : Nat -> ByteArray) (f s ft : ByteArray) (w : World) (hs : s.size <= 4000000) (hp : p <= s.size) (hf : f.size <= 1000) (HG : Hid (Gm w gb G mk)) (hyes : LasR s p)
   (hall : ((lsO s p).all fun x => decide (x < G.n)) = true) (hgo : goesL G (fsOf f) (lsO s p) (opn s p - p - 1) = true) (hst : (lsO s p).getD 0 0 = st) (hf1 : 1 < ft.size) (h1 : ft[1].toNat = 91) (A B : ByteArray) (F H : Nat -> Nat -> Option Nat) (HQ : PartsIs ft A B 2 82) (HX : ShIs gb G mk f s B F) (HY : ShIs gb G mk f s A H) (hF : ∀ x a q, a <= s.size -> F x a = some q -> q <= s.size) :
   Calls Tryz.prog 61 #[.agg #[.pointer (some ⟨gb, 0, none⟩), .string f, .string s], .string ft, .int .i64 (st : Int), .int .i64 (p : Int)] w fun e w' => e = .returned (.int .i64 (opI (endsR F H s (lsO s p) (sht s p + 2)))) ∧ Below w.heap.size w w' := by
 have hlen := las_len hyes
 obtain ⟨ls, hls⟩ : ∃ ls, ls = lsO s p := ⟨_, rfl⟩
 obtain ⟨fr, hfr⟩ : ∃ fr, fr = opn s p - p - 1 := ⟨_, rfl⟩
 obtain ⟨q, hq⟩ : ∃ q, q = sht s p + 2 := ⟨_, rfl⟩
 obtain ⟨N, hN⟩ : ∃ N, N = ls.length := ⟨_, rfl⟩
 obtain ⟨R, hR⟩ : ∃ R, R = opI (endsR F H s ls q) := ⟨_, rfl⟩
 have HLA := fun W => las_yesR hs hp hyes hls hN hfr hq W
 rw [<- hls] at hall hgo hst
 rw [<- hfr] at hgo
 rw [<- hls, <- hq, <- hR]
 rw [show col s (opn s p) (p + 1) (sht s p - p - 1) = ls from hls.symm, <- hfr, <- hq] at hlen
 have HALL : Hid (∀ j, j < ls.length -> ls.getD j 0 < G.n) := all_at hall
 have hn2 : ((ls.all fun x => decide (x < G.n)) && (goesL G (fsOf f) ls fr && decide (ls.getD 0 0 = st))) = true := by rw [hall, hgo, hst]; simp
 have HGO : ∀ (gl cap : Nat) (W : World), Hid (Gm W gb G mk) -> Hid (Lr W gl ls) -> Calls Tryz.prog 90 #[.pointer (some ⟨gb, 0, none⟩), .agg #[.slice (some ⟨gl, 0, none⟩) N cap, .int .i64 (fr : Int)], .string f, .int .i64 (st : Int)] W fun e w' => e = .returned (.bool true) ∧ Below W.heap.size W w' := by
   intro gl cap W h1 h2
   have := goes_R gb gl cap fr st ls G mk f W hf hlen.1 hlen.2.1 h1 h2
   rw [hn2, <- hN] at this
   exact this
 have HQ1 : ∀ W, Calls Tryz.prog 53 #[.string ft, .int .i64 2] W fun e w' => e = .returned (.tuple #[.string A, .string B, .int .u8 82]) ∧ ∃ n, w' = W.drewN n := fun W => by simpa using HQ W
 have HEN : ∀ (gl cap : Nat) (W : World), Hid (Gm W gb G mk) -> Hid (Lr W gl ls) -> Calls Tryz.prog 92 #[.agg #[.pointer (some ⟨gb, 0, none⟩), .string f, .string s], .string B, .string A, .agg #[.slice (some ⟨gl, 0, none⟩) N cap, .int .i64 (fr : Int)], .int .i64 (q : Int), .int .i64 1] W fun e w' => e = .returned (.int .i64 R) ∧ Below W.heap.size W w' := by
   intro gl cap W h1 h2
   have := ends_R gb gl cap fr q ls G mk f s B A F H W hs hlen.2.2 hlen.1 h1 h2 HALL HX HY hF (by have := hlen.2.1; omega)
   rw [<- hR, <- hN] at this
   exact this
 clear HQ HX HY hF
 obtain ⟨hN40, hfN, hqs⟩ := hlen
 rw [<- hN] at hN40 hfN
 have HR : Hid (R = opI (endsR F H s ls q)) := hR
 have k1 : (1 : Int) < (ft.size : Int) := by omega
 have k2 : (2 : Int) <= (ft.size : Int) := by omega
 have k0 : (0 : Int) <= (1 : Int) := by omega
 have wr1 : IntKind.i64.wrap 1 = 1 := by decide
 have wr2 : IntKind.i64.wrap 2 = 2 := by decide
 clear hls hfr hq hN hn2 hyes hall hgo hst hR
 go_enter Tryz.func61, Tryz.ntmps61
 go_wp2_with fail
 generalize hW : w.alloc (Obj.cells #[Value.pointer (some ⟨gb, 0, none⟩), Value.string f, Value.string s] 86) = W0
 obtain ⟨hWs, hBW⟩ := trial_box gb G mk f s w W0 HG.out hW
 have HBW : Hid _ := hBW
 clear hW hBW
 refine (HLA _).mono ?_
 rintro e w1 ⟨gl, cap, rfl, hL, hb1⟩
 have HB1 : Hid (Below (w.heap.size + 1) W0 w1) := hb1.mono (by omega)
 obtain ⟨a1, b1, c1, hG1, -⟩ := HBW.out _ HB1.out
 have HL1 : Hid (Lr w1 gl ls) := hL
 have HG1 : Hid (Gm w1 gb G mk) := hG1
 have hz1 : w.heap.size < w1.heap.size := by have := hb1.size; omega
 clear hb1 hL hG1 HLA
 go_wp2_with fail
 generalize hW1 : w1.alloc (Obj.cells #[Value.slice (some ⟨gl, 0, none⟩) N cap, Value.int IntKind.i64 (fr : Int)] 146) = W1
 obtain ⟨hW1s, hB11, hBL⟩ := lasso_box gl cap fr N ls w1 W1 HL1.out hW1
 have HBL : Hid _ := hBL
 have HB3 : Hid (Below (w.heap.size + 1) W0 W1) := HB1.out.trans (hB11.mono (by omega))
 clear hW1 hBL
 refine (HGO gl cap _ (HBW.out _ HB3.out).2.2.2.1 (HBL.out _ (Below.refl _ _)).2.2).mono ?_
 rintro e w2 ⟨rfl, hb2⟩
 have HC2 : Hid (Below (w1.heap.size + 1) W1 w2) := hb2.mono (by omega)
 have HB2 : Hid (Below (w.heap.size + 1) W0 w2) := HB3.out.trans (hb2.mono (by omega))
 obtain ⟨a2, b2, c2, -, -⟩ := HBW.out _ HB2.out
 obtain ⟨d2, e2, -⟩ := HBL.out _ HC2.out
 clear hb2 a1 b1 c1 HGO HB3 HG HG1 HL1
 go_wp2_with fail
 refine (HQ1 _).mono ?_
 rintro e w4 ⟨rfl, n4, rfl⟩
 have HC4 : Hid (Below (w1.heap.size + 1) W1 (w2.drewN n4)) := below_drewN HC2.out n4
 have HB4 : Hid (Below (w.heap.size + 1) W0 (w2.drewN n4)) := below_drewN HB2.out n4
 obtain ⟨a4, b4, c4, hG4, -⟩ := HBW.out _ HB4.out
 obtain ⟨d4, e4, hL4⟩ := HBL.out _ HC4.out
 have HG4 : Hid (Gm (w2.drewN n4) gb G mk) := hG4
 have HL4 : Hid (Lr (w2.drewN n4) gl ls) := hL4
 clear hG4 hL4 HQ1
 go_wp2_with fail
 refine (HEN gl cap _ HG4 HL4).mono ?_
 rintro e w5 ⟨rfl, hb5⟩
 have HB5 : Hid (Below w.heap.size w w5) := (HBW.out _ HB4.out).2.2.2.2.trans (hb5.mono (HBW.out _ HB4.out).2.2.2.2.size)
 clear hb5
 go_wp2_with fail
 go_ret
 exact ⟨rfl, HB5.out⟩
theorem sh_par (gb : Nat) (G : Gph) (mk : Nat -> ByteArray) (f s ft : ByteArray) (r : Nat -> Nat -> Option Nat) (hs : s.size <= 4000000) (hf0 : 0 < ft.size) (h0 : ft[0].toNat = 40)
   (HP : ∀ (st p : Nat) (w : World), st < G.n -> p <= s.size -> Hid (Gm w gb G mk) -> Calls Tryz.prog 60 #[.agg #[.pointer (some ⟨gb, 0, none⟩), .string f, .string s], .string ft, .int .i64 (st : Int), .int .i64 (p : Int)] w fun e w' => e = .returned (.int .i64 (opI (r st p))) ∧ Below w.heap.size w w') :
   ShIs gb G mk f s ft r := by
 intro st p w hst hp HG
 obtain ⟨R, hR⟩ : ∃ R, R = opI (r st p) := ⟨_, rfl⟩
 have HP1 := fun W h => HP st p W hst hp h
 rw [<- hR] at HP1 ⊢
 clear hR HP
 have k0 : (0 : Int) < (ft.size : Int) := by omega
 have wz : IntKind.i64.wrap 0 = 0 := by decide
 go_enter Tryz.func36, Tryz.ntmps36
 go_wp2_with fail
 generalize hW : w.alloc (Obj.cells #[Value.pointer (some ⟨gb, 0, none⟩), Value.string f, Value.string s] 86) = W0
 obtain ⟨hWs, hBW⟩ := trial_box gb G mk f s w W0 HG.out hW
 have HG0 : Hid (Gm W0 gb G mk) := (hBW _ (Below.refl _ _)).2.2.2.1
 have HB0 : Hid (Below w.heap.size w W0) := (hBW _ (Below.refl _ _)).2.2.2.2
 clear hW hBW
 refine (HP1 _ HG0).mono ?_
 rintro e w1 ⟨rfl, hb1⟩
 have HB1 : Hid (Below w.heap.size w w1) := HB0.out.trans (hb1.mono HB0.out.size)
 clear hb1
 go_wp2_with fail
 go_ret
 exact ⟨rfl, HB1.out⟩
theorem sh_way (gb : Nat) (G : Gph) (mk : Nat -> ByteArray) (f s ft : ByteArray) (r : Nat -> Nat -> Option Nat) (hs : s.size <= 4000000) (hf0 : 0 < ft.size) (h0 : ft[0].toNat = 69)
   (HP : ∀ (st p : Nat) (w : World), st < G.n -> p <= s.size -> Hid (Gm w gb G mk) -> Calls Tryz.prog 61 #[.agg #[.pointer (some ⟨gb, 0, none⟩), .string f, .string s], .string ft, .int .i64 (st : Int), .int .i64 (p : Int)] w fun e w' => e = .returned (.int .i64 (opI (r st p))) ∧ Below w.heap.size w w') :
   ShIs gb G mk f s ft r := by
 intro st p w hst hp HG
 obtain ⟨R, hR⟩ : ∃ R, R = opI (r st p) := ⟨_, rfl⟩
 have HP1 := fun W h => HP st p W hst hp h
 rw [<- hR] at HP1 ⊢
 clear hR HP
 have k0 : (0 : Int) < (ft.size : Int) := by omega
 have wz : IntKind.i64.wrap 0 = 0 := by decide
 go_enter Tryz.func36, Tryz.ntmps36
 go_wp2_with fail
 generalize hW : w.alloc (Obj.cells #[Value.pointer (some ⟨gb, 0, none⟩), Value.string f, Value.string s] 86) = W0
 obtain ⟨hWs, hBW⟩ := trial_box gb G mk f s w W0 HG.out hW
 have HG0 : Hid (Gm W0 gb G mk) := (hBW _ (Below.refl _ _)).2.2.2.1
 have HB0 : Hid (Below w.heap.size w W0) := (hBW _ (Below.refl _ _)).2.2.2.2
 clear hW hBW
 refine (HP1 _ HG0).mono ?_
 rintro e w1 ⟨rfl, hb1⟩
 have HB1 : Hid (Below w.heap.size w w1) := HB0.out.trans (hb1.mono HB0.out.size)
 clear hb1
 go_wp2_with fail
 go_ret
 exact ⟨rfl, HB1.out⟩
section
variable {G : Gph} {fs : List Nat} {s : ByteArray} {wy st p : Nat} {u : Unit} {l r : Fm}
theorem rep_xB : rep G fs s (.node 88 wy u l r) st p = (lasG G fs s st p).bind fun x => rep G fs s l (x.1.getD (nxt x.1.length x.2.1 0) 0) x.2.2 := by
 cases h : lasG G fs s st p with
 | none => rw [rep_x0 h]; rfl
 | some x => rw [rep_x1 h]; rfl
theorem rep_uB : rep G fs s (.node 85 wy u l r) st p = (lasG G fs s st p).bind fun x => endsU (rep G fs s l) (rep G fs s r) s x.1 x.2.2 := by
 cases h : lasG G fs s st p with
 | none => rw [rep_u0 h]; rfl
 | some x =>
   show _ = endsU _ _ _ _ _
   unfold endsU
   cases h2 : plc (rep G fs s l) s x.1 x.2.2 with
   | none => rw [rep_u1 h h2]
   | some y =>
     by_cases h3 : y.1 < x.1.length ∧ isAt s y.2 45 = true
     · rw [rep_u3 h h2 h3]; exact (if_pos h3).symm
     · rw [rep_u2 h h2 h3]; exact (if_neg h3).symm
theorem rep_rB : rep G fs s (.node 82 wy u l r) st p = (lasG G fs s st p).bind fun x => endsR (rep G fs s r) (rep G fs s l) s x.1 x.2.2 := by
 cases h : lasG G fs s st p with
 | none => rw [rep_r0 h]; rfl
 | some x =>
   show _ = endsR _ _ _ _ _
   unfold endsR
   cases h2 : plc (rep G fs s r) s x.1 x.2.2 with
   | none => rw [rep_r1 h h2]
   | some y =>
     simp only
     by_cases h3 : y.1 = 0
     · rw [rep_r2 h h2 h3, if_pos h3]
     · rw [if_neg h3]
       cases h4 : isAt s y.2 111 with
       | true =>
         rw [if_pos rfl]
         by_cases h5 : y.1 = x.1.length
         · rw [rep_r3 h h2 h3 h4 h5, if_pos h5]
         · rw [rep_r4 h h2 h3 h4 h5, if_neg h5]
       | false =>
         rw [if_neg (by simp)]
         cases h5 : isAt s y.2 45 with
         | true => rw [rep_r5 h h2 h3 h4 h5, if_pos rfl]
         | false => rw [rep_r6 h h2 h3 h4 h5, if_neg (by simp)]
theorem rep_pairA : rep G fs s (.node 38 wy u l r) st p = pairO s 38 (rep G fs s l) (rep G fs s r) st p := by
 unfold pairO
 rw [if_neg (by omega)]
 cases h : isAt s p 38 with
 | false => rw [rep_and0 h]; rfl
 | true =>
   cases h1 : rep G fs s l st (p + 1) with
   | none => rw [rep_and1 h h1]; simp
   | some q => rw [rep_and2 h h1]; simp
theorem rep_pairO : rep G fs s (.node 43 wy u l r) st p = pairO s 43 (rep G fs s l) (rep G fs s r) st p := by
 unfold pairO
 rw [if_pos rfl]
 cases h : isAt s p 60 with
 | true => rw [rep_or1 h]; rfl
 | false =>
   cases h2 : isAt s p 62 with
   | true => rw [rep_or2 h h2]; rfl
   | false => rw [rep_or0 h h2]; rfl
end
theorem isAt_out {s : ByteArray} {p c : Nat} (h : s.size <= p) : isAt s p c = false := by
 cases e : isAt s p c with
 | false => rfl
 | true => have := isAt_lt e; omega
theorem lasG_out {G : Gph} {fs : List Nat} {s : ByteArray} {st p : Nat} (h : s.size <= p) : lasG G fs s st p = none := by
 have : las G.n s p = none := by
   unfold las
   rw [if_neg]
   rintro ⟨h1, _⟩
   rw [isAt_out h] at h1
   cases h1
 unfold lasG
 rw [this]
theorem rep_out {G : Gph} {fs : List Nat} {s : ByteArray} {st p : Nat} (t : Fm) (h : s.size <= p) : rep G fs s t st p = none := by
 cases t with
 | nil => simp [rep]
 | node sg wy u l r =>
   have h2 : lasG G fs s st p = none := lasG_out h
   rw [rep]
   simp [isAt_out h, h2]
theorem rep_in {G : Gph} {fs : List Nat} {s : ByteArray} {st p q : Nat} (t : Fm) (h : rep G fs s t st p = some q) : q <= s.size := by
 by_cases hp : p <= s.size
 · exact (rep_some t st p q hp h).2
 · rw [rep_out t (by omega)] at h; cases h
theorem way_any (gb st p : Nat) (G : Gph) (mk : Nat -> ByteArray) (f s ft : ByteArray) (w : World) (hs : s.size <= 4000000) (hp : p <= s.size) (hf : f.size <= 1000) (HG : Hid (Gm w gb G mk)) (K : List Nat × Nat × Nat -> Option Nat)
   (HY : LasR s p -> ((lsO s p).all fun x => decide (x < G.n)) = true -> goesL G (fsOf f) (lsO s p) (opn s p - p - 1) = true -> (lsO s p).getD 0 0 = st ->
     Calls Tryz.prog 61 #[.agg #[.pointer (some ⟨gb, 0, none⟩), .string f, .string s], .string ft, .int .i64 (st : Int), .int .i64 (p : Int)] w fun e w' => e = .returned (.int .i64 (opI (K (lsO s p, opn s p - p - 1, sht s p + 2)))) ∧ Below w.heap.size w w') :
   Calls Tryz.prog 61 #[.agg #[.pointer (some ⟨gb, 0, none⟩), .string f, .string s], .string ft, .int .i64 (st : Int), .int .i64 (p : Int)] w fun e w' => e = .returned (.int .i64 (opI ((lasG G (fsOf f) s st p).bind K))) ∧ Below w.heap.size w w' := by
 have hn := HG.out.n6
 by_cases hr : LasR s p
 · by_cases h : ((lsO s p).all fun x => decide (x < G.n)) = false ∨ goesL G (fsOf f) (lsO s p) (opn s p - p - 1) = false ∨ (lsO s p).getD 0 0 ≠ st
   · rw [lasG_no2 hn hr h]
     exact way_no2 gb st p G mk f s ft w hs hp hf HG hr h
   · have h1 : ((lsO s p).all fun x => decide (x < G.n)) = true := by
       cases e : ((lsO s p).all fun x => decide (x < G.n)) with
       | true => rfl
       | false => exact absurd (.inl e) h
     have h2 : goesL G (fsOf f) (lsO s p) (opn s p - p - 1) = true := by
       cases e : goesL G (fsOf f) (lsO s p) (opn s p - p - 1) with
       | true => rfl
       | false => exact absurd (.inr (.inl e)) h
     have h3 : (lsO s p).getD 0 0 = st := by
       by_cases e : (lsO s p).getD 0 0 = st
       · exact e
       · exact absurd (.inr (.inr e)) h
     rw [lasG_of hn hr h1 h2 h3]
     exact HY hr h1 h2 h3
 · rw [lasG_no1 hn hr]
   exact way_no1 gb st p G mk f s ft w hs hp HG hr
theorem ShIs.congr {gb : Nat} {G : Gph} {mk : Nat -> ByteArray} {f s ft : ByteArray} {r r' : Nat -> Nat -> Option Nat} (h : ShIs gb G mk f s ft r) (e : ∀ st p, r st p = r' st p) : ShIs gb G mk f s ft r' := by
 have : r = r' := by funext st p; exact e st p
 rw [<- this]; exact h
theorem shows_any (gb : Nat) (G : Gph) (mk : Nat -> ByteArray) (f s : ByteArray) (hs : s.size <= 4000000) (hf : f.size <= 1000) : ∀ (t : Fm), good t -> shw t -> ∀ ft : ByteArray, ft.data.toList = txt t -> ft.size <= 60 -> ShIs gb G mk f s ft (rep G (fsOf f) s t) := by
 intro t
 induction t with
 | nil => intro h; exact absurd h (by simp [good])
 | node sg wy u l r ihl ihr =>
   intro h hw ft hft hz
   have hsz := size_of hft
   rcases good_cases h with ⟨c, e, hc, ht⟩ | ⟨x, e, hx, ht⟩ | ⟨q, x, y, e, hq, hx, hy, ht⟩ | ⟨v, x, e, hv, hx, ht⟩ | ⟨q, v, x, y, e, hq, hv, hx, hy, ht⟩
   · rw [ht] at hft hsz
     injection e with e3 e0 _ e1 e2
     subst e3 e0 e1 e2
     have hp0 : 0 < ft.size := by rw [hsz]; simp
     have h0 : ft[0].toNat = sg := by rw [at0 hft hp0, b8_nat (isAtom_lt hc)]
     have hc' := hc
     simp only [isAtom, decide_eq_true_eq] at hc'
     intro st p w hst hp HG
     have es : soB G (.node sg 0 u .nil .nil) st = (decide (sg = 84) || G.m st sg) := by rw [soB, if_neg (by omega)]
     rw [rep_leaf (by omega), es]
     exact leaf_R gb st p sg G mk f s ft w hs hp hst HG hsz h0 hc
   · rw [ht] at hft hsz
     injection e with e3 e0 _ e1 e2
     subst e3 e0 e1 e2
     rw [shw, if_pos rfl] at hw
     obtain ⟨c, hc, hl⟩ := hw
     subst hl
     rw [txt_atom hc] at hft hsz
     have hp0 : 0 < ft.size := by rw [hsz]; simp
     have hp1 : 1 < ft.size := by rw [hsz]; simp
     have h0 : ft[0].toNat = 33 := at0 hft hp0
     have h1 : ft[1].toNat = c := by rw [at1 hft hp1, b8_nat (isAtom_lt hc)]
     have hc' := hc
     simp only [isAtom, decide_eq_true_eq] at hc'
     intro st p w hst hp HG
     have es : soB G (.node 33 0 u (.node c 0 () .nil .nil) .nil) st = !(decide (c = 84) || G.m st c) := by rw [soB, if_pos rfl, soB, if_neg (by omega)]
     rw [rep_leaf (by omega), es]
     exact leafN_R gb st p c G mk f s ft w hs hp hst HG hsz h1 h0 hc
   · rw [ht] at hft hsz
     injection e with e3 e0 _ e1 e2
     subst e3 e0 e1 e2
     rw [shw, if_neg (by omega), if_pos hq] at hw
     simp only [List.length_cons, List.length_append, List.length_nil] at hsz
     have hp0 : 0 < ft.size := by omega
     have hQ := parts1_is hft hx (by omega) hz
     have hX := ihl hx hw.1 _ (ext_left1 hft) (by rw [size_of (ext_left1 hft)]; omega)
     have hY := ihr hy hw.2 _ (ext_right1 hft) (by rw [size_of (ext_right1 hft)]; omega)
     rcases hq with rfl | rfl
     · refine (sh_par gb G mk f s ft (pairO s 38 (rep G (fsOf f) s l) (rep G (fsOf f) s r)) hs hp0 (at0 hft hp0) ?_).congr fun st p => rep_pairA.symm
       intro st p w hst hp HG
       exact pair_and gb st p G mk f s ft _ _ _ _ w hs hp hst HG hQ hX hY fun q hq => rep_in l hq
     · refine (sh_par gb G mk f s ft (pairO s 43 (rep G (fsOf f) s l) (rep G (fsOf f) s r)) hs hp0 (at0 hft hp0) ?_).congr fun st p => rep_pairO.symm
       intro st p w hst hp HG
       exact pair_or gb st p G mk f s ft _ _ _ _ w hs hp hst HG hQ hX hY fun q hq => rep_in l hq
   · rw [ht] at hft hsz
     injection e with e3 e0 _ e1 e2
     subst e3 e0 e1 e2
     rw [shw, if_neg (by omega), if_neg (by omega), if_pos rfl] at hw
     obtain ⟨rfl, hwl⟩ := hw
     simp only [List.length_cons] at hsz
     have hp0 : 0 < ft.size := by omega
     have hp1 : 1 < ft.size := by omega
     have hX := ihl hx hwl _ (ext_tail2 hft) (by rw [size_of (ext_tail2 hft)]; omega)
     refine (sh_way gb G mk f s ft (fun st p => (lasG G (fsOf f) s st p).bind fun x => rep G (fsOf f) s l (x.1.getD (nxt x.1.length x.2.1 0) 0) x.2.2) hs hp0 (at0 hft hp0) ?_).congr fun st p => rep_xB.symm
     intro st p w hst hp HG
     refine way_any gb st p G mk f s ft w hs hp hf HG (fun x => rep G (fsOf f) s l (x.1.getD (nxt x.1.length x.2.1 0) 0) x.2.2) fun a1 a2 a3 a4 => ?_
     exact way_x gb st p G mk f s ft w hs hp hf HG a1 a2 a3 a4 hp1 (at1 hft hp1) _ _ rfl hX
   · rw [ht] at hft hsz
     injection e with e3 e0 _ e1 e2
     subst e3 e0 e1 e2
     rw [shw, if_neg (by omega), if_neg (by omega), if_neg (by omega), if_pos hq] at hw
     obtain ⟨rfl, hwl, hwr⟩ := hw
     simp only [List.length_cons, List.length_append, List.length_nil] at hsz
     have hp0 : 0 < ft.size := by omega
     have hp1 : 1 < ft.size := by omega
     have hQ := parts2_is hft hx (by omega) hz
     have hX := ihl hx hwl _ (ext_left2 hft) (by rw [size_of (ext_left2 hft)]; omega)
     have hY := ihr hy hwr _ (ext_right2 hft) (by rw [size_of (ext_right2 hft)]; omega)
     rcases hq with rfl | rfl
     · refine (sh_way gb G mk f s ft (fun st p => (lasG G (fsOf f) s st p).bind fun x => endsU (rep G (fsOf f) s l) (rep G (fsOf f) s r) s x.1 x.2.2) hs hp0 (at0 hft hp0) ?_).congr fun st p => rep_uB.symm
       intro st p w hst hp HG
       refine way_any gb st p G mk f s ft w hs hp hf HG (fun x => endsU (rep G (fsOf f) s l) (rep G (fsOf f) s r) s x.1 x.2.2) fun a1 a2 a3 a4 => ?_
       exact way_u gb st p G mk f s ft w hs hp hf HG a1 a2 a3 a4 hp1 (at1 hft hp1) _ _ _ _ hQ hX hY fun x a q ha hq => (rep_some l x a q ha hq).2
     · refine (sh_way gb G mk f s ft (fun st p => (lasG G (fsOf f) s st p).bind fun x => endsR (rep G (fsOf f) s r) (rep G (fsOf f) s l) s x.1 x.2.2) hs hp0 (at0 hft hp0) ?_).congr fun st p => rep_rB.symm
       intro st p w hst hp HG
       refine way_any gb st p G mk f s ft w hs hp hf HG (fun x => endsR (rep G (fsOf f) s r) (rep G (fsOf f) s l) s x.1 x.2.2) fun a1 a2 a3 a4 => ?_
       exact way_r gb st p G mk f s ft w hs hp hf HG a1 a2 a3 a4 hp1 (at1 hft hp1) _ _ _ _ hQ hY hX fun x a q ha hq => (rep_some r x a q ha hq).2
end Go.Proofs.YtcfbfdjmcabnkabGreat
