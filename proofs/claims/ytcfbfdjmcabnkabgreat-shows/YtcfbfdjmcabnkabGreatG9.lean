import Derived.OwnWalk
import Derived.Laws.Tables
import Derived.Test.YtcfbfdjmcabnkabGreatG8
import Derived.Test.YtcfbfdjmcabnkabGreatG6
import Derived.Test.YtcfbfdjmcabnkabGreatGW
import Derived.Test.YtcfbfdjmcabnkabGreatG4
set_option maxRecDepth 100000
set_option maxHeartbeats 4000000
namespace Go.Proofs.YtcfbfdjmcabnkabGreat
open Go.RowKit Fw
set_option linter.unusedVariables false
theorem someX_is (gb : Nat) (G : Gph) (ok : G.ok) (mk : Nat -> ByteArray) (S T : Nat -> Bool) (f : ByteArray) (w : World) (hf : f.size <= 1000) (HG : Hid (Gm w gb G mk)) :
   Calls Tryz.prog 56 #[.pointer (some ⟨gb, 0, none⟩), .int .u8 88, .agg (six S), .agg (six T), .string f] w fun e w' => e = .returned (.agg (six (upto G.n (someB G (fsOf f) 88 S T)))) ∧ Below w.heap.size w w' := by
 have hgl := HG.out.lt
 have HOK : Hid G.ok := ok
 clear ok
 have HA0 : Hid (Arr (((w.alloc (.cells (six S) 75)).alloc (.cells (six T) 75)).alloc (.cells (six fun _ => false) 75)) w.heap.size 6 S) := ((arr_new w S 75).alloc _).alloc _
 have HT0 : Hid (Arr (((w.alloc (.cells (six S) 75)).alloc (.cells (six T) 75)).alloc (.cells (six fun _ => false) 75)) (w.heap.size + 1) 6 T) := (arr_at _ _ 75 _ (by simp)).alloc _
 have HR0 : Hid (Arr (((w.alloc (.cells (six S) 75)).alloc (.cells (six T) 75)).alloc (.cells (six fun _ => false) 75)) (w.heap.size + 1 + 1) 6 (fun _ => false)) := arr_at _ _ 75 _ (by simp)
 have hb0 := below3 w (.cells (six S) 75) (.cells (six T) 75) (.cells (six fun _ => false) 75)
 have HG0 : Hid (Gm _ gb G mk) := HG.out.below hb0 hgl
 have HFU := fun w' (h : Hid (Gm w' gb G mk)) => fullB_of gb G mk w' h
 have HST := fun w' (h : Hid (Gm w' gb G mk)) => stays_is gb G HOK.out mk (fullB G) f w' hf h
 have HU : Hid (∀ i, someB G (fsOf f) 88 S T i = anyU (fun j => G.e i j && S j && upto G.n (liveB G (fsOf f)) j) G.n) := by
   intro i
   rw [anyU_anyN, anyN_congr (q := fun j => G.e i j && S j && liveB G (fsOf f) j) (fun j hj => by rw [upto_lt hj])]
   rfl
 obtain ⟨F, hF⟩ : ∃ F, F = someB G (fsOf f) 88 S T := ⟨_, rfl⟩
 rw [<- hF] at HU
 rw [<- hF]
 clear hF
 have HL : staysB G (fsOf f) (fullB G) = liveB G (fsOf f) := rfl
 rw [HL] at HST
 clear HL
 obtain ⟨L, hL⟩ : ∃ L, L = upto G.n (liveB G (fsOf f)) := ⟨_, rfl⟩
 rw [<- hL] at HST HU
 clear hL
 go_enter Tryz.func56, Tryz.ntmps56
 go_wp2_with (first
   | (go_at_call 80; refine (HFU _ HG0).mono ?_; rintro e w1 ⟨rfl, hb1⟩)
   | (go_at_call 79; refine (HST _ (HG0.out.below hb1 HG0.out.lt)).mono ?_; rintro e w2 ⟨rfl, hb2⟩)
   | (refine store6 (by rfl) _ _ (by rfl) w2.heap.size (fun _ => false) L (by rfl) (by rfl) (arr_at w2 (fun _ => false) 75 _ rfl) ?_; intro w3 hb3 hz3 hk3 HL3))
 have hb02 := Below.to hb1 hb2
 have hb23 : Below w2.heap.size w2 w3 := ((Below.refl _ _).alloc (Nat.le_refl _) _).trans hb3
 have hb03 := Below.to hb02 hb23
 have HA3 : Hid (Arr w3 w.heap.size 6 S) := HA0.out.below hb03 HA0.out.lt
 have HT3 : Hid (Arr w3 (w.heap.size + 1) 6 T) := HT0.out.below hb03 HT0.out.lt
 have HR3 : Hid (Arr w3 (w.heap.size + 1 + 1) 6 (fun _ => false)) := HR0.out.below hb03 HR0.out.lt
 have hbel : Below w.heap.size w w3 := Below.to hb0 hb03
 have HLL : Hid (Arr w3 w2.heap.size 6 L) := HL3
 have q1 : w.heap.size + 1 + 1 < w2.heap.size := (HR0.out.below hb02 HR0.out.lt).lt
 clear HL3 HA0 HT0 HR0 HG0 hb0 hb1 hb2 hb3 hk3 hb02 hb23 hb03
 have q2 : w3.heap.size = w2.heap.size + 1 := by rw [hz3]; simp
 clear hz3
 have hg6 := HG.out.n6
 have q3 : w2.heap.size < w3.heap.size := HLL.out.lt
 go_loopw [13] (fun q wr => ∃ i : Nat, i <= G.n ∧ q = .int .i64 i ∧ Below w.heap.size w wr ∧ Hid (Arr wr w.heap.size 6 S) ∧ Hid (Arr wr (w.heap.size + 1 + 1) 6 (fun _ => false)) ∧ Hid (Arr wr w2.heap.size 6 L) ∧ Hid (Arr wr (w2.heap.size + 1) 6 (upto i F))) (fun q _ => G.n - (intOf q).toNat)
 case atStart =>
   refine ⟨0, by omega, rfl, Below.to hbel ((Below.refl _ _).alloc (Nat.le_refl _) _), HA3.out.alloc _, HR3.out.alloc _, HLL.out.alloc _, ?_⟩
   show Arr _ _ _ _
   rw [upto_zero]
   exact arr_at _ (fun _ => false) 75 _ q2
 case round =>
   clear HA3 HT3 HR3 HLL hbel
   obtain ⟨i, hi, rfl, hbel, HA, HR, HM, HS⟩ := hrel
   have hn := (HG.out.below hbel hgl).cn
   by_cases hlt : i < G.n
   · have i0 : (0 : Int) <= (i : Int) := by omega
     have i1 : (i : Int) < 6 := by omega
     go_wp2_with fail
     clear hn
     go_loopw [14] (fun q wr => ∃ c : Nat, c <= G.n ∧ q = .int .i64 c ∧ Below w.heap.size w wr ∧ Hid (Arr wr w.heap.size 6 S) ∧ Hid (Arr wr (w.heap.size + 1 + 1) 6 (fun _ => false)) ∧ Hid (Arr wr w2.heap.size 6 L) ∧ Hid (Arr wr (w2.heap.size + 1) 6 (part i F (anyU (fun j => G.e i j && S j && L j) c)))) (fun q _ => G.n - (intOf q).toNat)
     case atStart => exact ⟨0, by omega, rfl, hbel, HA, HR, HM, HS.out.partIn⟩
     case round =>
       clear hbel HA HR HM HS
       obtain ⟨c, hc, rfl, hbel, HA, HR, HM, HS⟩ := hrel
       have HGr : Hid (Gm _ gb G mk) := HG.out.below hbel hgl
       have hn := HGr.out.cn
       by_cases hcl : c < G.n
       · have ca := HA.out.c c (by omega)
         have cm := HM.out.c c (by omega)
         have ce := HGr.out.ce i c (by omega) (by omega)
         have zs := HS.out.z i (by omega)
         have cs := HS.out.c i (by omega)
         rw [part_here] at cs
         have c0 : (0 : Int) <= (c : Int) := by omega
         have c1 : (c : Int) < 6 := by omega
         have HX := anyU_succ (fun j => G.e i j && S j && L j) c
         obtain ⟨x, hx⟩ : ∃ x, x = G.e i c := ⟨_, rfl⟩
         obtain ⟨y, hy⟩ : ∃ y, y = S c := ⟨_, rfl⟩
         obtain ⟨z, hz⟩ : ∃ z, z = L c := ⟨_, rfl⟩
         obtain ⟨b, hb⟩ : ∃ b, b = anyU (fun j => G.e i j && S j && L j) c := ⟨_, rfl⟩
         rw [<- hx] at ce
         rw [<- hy] at ca
         rw [<- hz] at cm
         rw [<- hb] at cs
         have HX2 : Hid (anyU (fun j => G.e i j && S j && L j) (c + 1) = (b || (x && y && z))) := by
           show _ = _
           rw [HX, <- hb, <- hx, <- hy, <- hz]
         clear HX hx hy hz hb
         cases b with
         | true =>
           go_wp2_with fail
           go_roundw
           case rel => exact ⟨c + 1, by omega, by go_num, hbel.setCell (by simp; omega) _, HA.out.setOther _ (by simp; omega), HR.out.setOther _ (by simp; omega), HM.out.setOther _ (by simp), HS.out.part (by omega) _ _ (by rw [HX2.out]; simp)⟩
           case measure => simp [intOf]; omega
         | false =>
           cases x with
           | false =>
             go_wp2_with fail
             go_roundw
             case rel => exact ⟨c + 1, by omega, by go_num, hbel.setCell (by simp; omega) _, HA.out.setOther _ (by simp; omega), HR.out.setOther _ (by simp; omega), HM.out.setOther _ (by simp), HS.out.part (by omega) _ _ (by rw [HX2.out]; simp)⟩
             case measure => simp [intOf]; omega
           | true =>
             cases y with
             | false =>
               go_wp2_with fail
               go_roundw
               case rel => exact ⟨c + 1, by omega, by go_num, hbel.setCell (by simp; omega) _, HA.out.setOther _ (by simp; omega), HR.out.setOther _ (by simp; omega), HM.out.setOther _ (by simp), HS.out.part (by omega) _ _ (by rw [HX2.out]; simp)⟩
               case measure => simp [intOf]; omega
             | true =>
               go_wp2_with fail
               go_roundw
               case rel => exact ⟨c + 1, by omega, by go_num, hbel.setCell (by simp; omega) _, HA.out.setOther _ (by simp; omega), HR.out.setOther _ (by simp; omega), HM.out.setOther _ (by simp), HS.out.part (by omega) _ _ (by rw [HX2.out]; simp)⟩
               case measure => simp [intOf]; omega
       · have hcn : c = G.n := by omega
         have HN : Hid (c = G.n) := hcn
         clear hcn
         go_wp2_with fail
         go_roundw
         case rel => exact ⟨i + 1, by omega, by go_num, hbel, HA, HR, HM, HS.out.partOut (by rw [HU.out i, HN.out])⟩
         case measure => simp [intOf]; omega
   · have hkn : i = G.n := by omega
     have HK : Hid (i = G.n) := hkn
     clear hkn
     go_wp2_with (first
       | (refine load6 (by rfl) _ (by rfl) (w2.heap.size + 1) (by rfl) _ HS.out ?_)
       | (refine store6 (by rfl) _ _ (by rfl) (w.heap.size + 1 + 1) _ _ (by rfl) (by rfl) HR.out ?_; intro w5 hb5 hz5 hk5 HR5))
     refine bodyPost_ret (result6 Tryz.results56 _ _ (w.heap.size + 1 + 1) _ rfl HR5) rfl ⟨?_, hbel.trans (hb5.mono (by omega))⟩
     rw [HK.out]
end Go.Proofs.YtcfbfdjmcabnkabGreat
namespace Go.Proofs.YtcfbfdjmcabnkabGreat
open Go.RowKit Fw
open Go.Deep (BT)
set_option linter.unusedVariables false
theorem parts_core (s A B : ByteArray) (p m M1 Z c : Nat) (w : World) (hz : s.size <= 60) (hp : p <= s.size) (hms : m < s.size) (hmid : s[m].toNat = c)
   (HE : Hid (s.size - (auto [102] (tl s p)).2.length = m)) (hA : s.extract p m = A) (hB : s.extract M1 Z = B) (w1 : IntKind.i64.wrap ((m : Int) + 1) = (M1 : Int)) (w2 : IntKind.i64.wrap ((s.size : Int) - 1) = (Z : Int))
   (k1 : (p : Int) <= (m : Int)) (k2 : (m : Int) <= (s.size : Int)) (k2' : (m : Int) < (s.size : Int)) (k0 : (0 : Int) <= (m : Int)) (kp : (0 : Int) <= (p : Int)) (k00 : (0 : Int) <= (M1 : Int)) (k3 : (M1 : Int) <= (Z : Int)) (k4 : (Z : Int) <= (s.size : Int)) (k5 : M1 <= Z) (k6 : Z <= s.size) (k7 : p <= m) :
   Calls Tryz.prog 53 #[.string s, .int .i64 (p : Int)] w fun e w' => e = .returned (.tuple #[.string A, .string B, .int .u8 (c : Int)]) ∧ ∃ n, w' = w.drewN n := by
 go_enter Tryz.func53, Tryz.ntmps53
 go_wp2_with fail
 refine (end_any s p _ hz hp).mono ?_
 rintro e w1 ⟨rfl, rfl⟩
 rw [HE.out]
 go_wp2_with fail
 go_quiet (fail)
 go_wp2
 go_ret3
 exact ⟨rfl, _, rfl⟩
def fairOk (f : ByteArray) : Bool := decide (f.size <= 2) && decide (scan 122 97 (tl f 0) = f.size)
theorem isFair_is (f : ByteArray) (w : World) (hf : f.size <= 9223372036854775807) :
   Calls Tryz.prog 51 #[.string f] w fun e w' => e = .returned (.bool (fairOk f)) ∧ ∃ n, w' = w.drewN n := by
 unfold fairOk
 by_cases h : f.size <= 2
 · have hd : decide ((f.size : Int) <= 2) = true := by simp; omega
   have hn : decide (f.size <= 2) = true := by simp; omega
   have HQ : Hid ((((scan 122 97 (tl f 0) : Nat) : Int) == (f.size : Int)) = decide (scan 122 97 (tl f 0) = f.size)) := by
     show _ = _
     rw [Bool.eq_iff_iff, beq_iff_eq, decide_eq_true_eq]; omega
   rw [hn]
   obtain ⟨q, hq⟩ : ∃ q, q = scan 122 97 (tl f 0) := ⟨_, rfl⟩
   have HC : ∀ w', Calls Tryz.prog 40 #[.string f, .int .u8 97, .int .u8 122] w' fun e w'' => e = .returned (.int .i64 (q : Int)) ∧ ∃ n, w'' = w'.drewN n := by
     intro w'
     rw [hq]
     exact rises_any f 97 122 w' (by omega) (by omega) (by omega)
   rw [<- hq]
   rw [<- hq] at HQ
   clear hq
   go_enter Tryz.func51, Tryz.ntmps51
   go_wp2_with (go_at_call 40; refine (HC _).mono ?_; rintro e w1 ⟨rfl, n, rfl⟩)
   go_ret
   exact ⟨by rw [HQ.out, Bool.true_and]; rfl, _, rfl⟩
 · have hd : decide ((f.size : Int) <= 2) = false := by simp; omega
   have hn : decide (f.size <= 2) = false := by simp; omega
   rw [hn]
   go_enter Tryz.func51, Tryz.ntmps51
   go_wp2_with fail
   go_ret
   exact ⟨rfl, 0, rfl⟩
def HoldIs (gb : Nat) (G : Gph) (mk : Nat -> ByteArray) (f s : ByteArray) (X : Nat -> Bool) : Prop := ∀ w, Hid (Gm w gb G mk) ->
 Calls Tryz.prog 32 #[.pointer (some ⟨gb, 0, none⟩), .string s, .string f] w fun e w' => e = .returned (.agg (six X)) ∧ Below w.heap.size w w'
theorem below1 (w : World) (o : Obj) : Below w.heap.size w (w.alloc o) := (Below.refl _ _).alloc (Nat.le_refl _) _
theorem holds_atom (gb : Nat) (G : Gph) (mk : Nat -> ByteArray) (f s : ByteArray) (c : Nat) (hp : 0 < s.size) (h0 : s[0].toNat = c)
   (b1 : ((c : Int) == 33) = false) (b2 : ((c : Int) == 40) = false) (b3 : ((c : Int) != 69) = true) (b4 : ((c : Int) != 65) = true) :
   HoldIs gb G mk f s (upto G.n fun j => (c == 84) || G.m j c) := by
 intro w HG
 have hgl := HG.out.lt
 have HG1 : Hid (Gm (w.alloc (.cells #[.bool false, .bool false, .bool false, .bool false, .bool false, .bool false] 75)) gb G mk) := HG.out.below (below1 w _) hgl
 have HR1 := arr_zero w 75
 have HP := plain_is gb c G mk _ HG1
 go_enter Tryz.func32, Tryz.ntmps32
 go_wp2_with (first
   | (go_at_call 55; refine HP.mono ?_; rintro e w1 ⟨rfl, hb1⟩)
   | (refine store6 (by rfl) _ _ (by rfl) w.heap.size (fun _ => false) _ (by rfl) (by rfl) (HR1.below hb1 HR1.lt) ?_; intro w5 hb5 hz5 hk5 HR5))
 exact bodyPost_ret (result6 Tryz.results32 _ _ w.heap.size _ rfl HR5) rfl ⟨rfl, (Below.to (below1 w _) hb1).trans hb5⟩
theorem holds_not (gb : Nat) (G : Gph) (mk : Nat -> ByteArray) (f s A : ByteArray) (X : Nat -> Bool) (hp : 0 < s.size) (hp1 : 1 <= s.size) (h0 : s[0].toNat = 33) (hA : s.extract 1 s.size = A) (HX : HoldIs gb G mk f A X) :
   HoldIs gb G mk f s (upto G.n fun j => !(X j)) := by
 intro w HG
 have hgl := HG.out.lt
 have HG1 : Hid (Gm (w.alloc (.cells #[.bool false, .bool false, .bool false, .bool false, .bool false, .bool false] 75)) gb G mk) := HG.out.below (below1 w _) hgl
 have HR1 : Hid _ := arr_zero w 75
 have HC := HX _ HG1
 have HW := fun w' (h : Hid (Gm w' gb G mk)) => without_is gb G mk X w' h
 clear HX
 go_enter Tryz.func32, Tryz.ntmps32
 go_wp2_with (first
   | (go_at_call 32; refine HC.mono ?_; rintro e w1 ⟨rfl, hb1⟩)
   | (go_at_call 52; refine (HW _ (HG1.out.below hb1 HG1.out.lt)).mono ?_; rintro e w2 ⟨rfl, hb2⟩)
   | (refine store6 (by rfl) _ _ (by rfl) w.heap.size (fun _ => false) _ (by rfl) (by rfl) ((HR1.out.below hb1 HR1.out.lt).below hb2 (HR1.out.below hb1 HR1.out.lt).lt) ?_; intro w5 hb5 hz5 hk5 HR5))
 exact bodyPost_ret (result6 Tryz.results32 _ _ w.heap.size _ rfl HR5) rfl ⟨rfl, (Below.to (Below.to (below1 w _) hb1) hb2).trans hb5⟩
def PartsIs (s A B : ByteArray) (p c : Nat) : Prop := ∀ w, Calls Tryz.prog 53 #[.string s, .int .i64 (p : Int)] w fun e w' => e = .returned (.tuple #[.string A, .string B, .int .u8 (c : Int)]) ∧ ∃ n, w' = w.drewN n
theorem holds_and (gb : Nat) (G : Gph) (mk : Nat -> ByteArray) (f s A B : ByteArray) (X Y : Nat -> Bool) (hp : 0 < s.size) (h0 : s[0].toNat = 40) (HQ : PartsIs s A B 1 38) (HX : HoldIs gb G mk f A X) (HY : HoldIs gb G mk f B Y) :
   HoldIs gb G mk f s (fun j => X j && Y j) := by
 intro w HG
 have hgl := HG.out.lt
 have HR1 : Hid _ := arr_zero w 75
 have HQ' : Hid (PartsIs s A B 1 38) := HQ
 have HX' : Hid (HoldIs gb G mk f A X) := HX
 have HY' : Hid (HoldIs gb G mk f B Y) := HY
 clear HQ HX HY
 go_enter Tryz.func32, Tryz.ntmps32
 go_wp2_with (first
   | (go_at_call 53; refine (HQ'.out _).mono ?_; rintro e w0 ⟨rfl, n, rfl⟩
      have hc0 : Below w.heap.size w _ := below_drewN (below1 w (.cells #[.bool false, .bool false, .bool false, .bool false, .bool false, .bool false] 75)) n
      have HR0 : Hid (Arr _ w.heap.size 6 (fun _ => false)) := HR1.out.drewN n)
   | (go_at_call_of 32 A; refine (HX'.out _ (HG.out.below hc0 hgl)).mono ?_; rintro e w1 ⟨rfl, hb1⟩
      have hc1 : Below w.heap.size w w1 := Below.to hc0 hb1
      have HR1' : Hid (Arr w1 w.heap.size 6 (fun _ => false)) := HR0.out.below hb1 HR0.out.lt)
   | (refine store6 (by rfl) _ _ (by rfl) w1.heap.size (fun _ => false) X (by rfl) (by rfl) (arr_zero w1 75) ?_; intro w2 hb2 hz2 hk2 HX2
      have hb12 : Below w1.heap.size w1 w2 := (below1 w1 _).trans hb2
      have hc2 : Below w.heap.size w w2 := Below.to hc1 hb12
      have HR2 : Hid (Arr w2 w.heap.size 6 (fun _ => false)) := HR1'.out.below hb12 HR1'.out.lt
      have HX2' : Hid (Arr w2 w1.heap.size 6 X) := HX2
      clear hz2 hk2 HX2)
   | (go_at_call_of 32 B; refine (HY'.out _ (HG.out.below hc2 hgl)).mono ?_; rintro e w3 ⟨rfl, hb3⟩
      have hc3 : Below w.heap.size w w3 := Below.to hc2 hb3
      have HR3 : Hid (Arr w3 w.heap.size 6 (fun _ => false)) := HR2.out.below hb3 HR2.out.lt
      have HX3 : Hid (Arr w3 w1.heap.size 6 X) := HX2'.out.below hb3 HX2'.out.lt)
   | (refine store6 (by rfl) _ _ (by rfl) w3.heap.size (fun _ => false) Y (by rfl) (by rfl) (arr_zero w3 75) ?_; intro w4 hb4 hz4 hk4 HY4
      have hb34 : Below w3.heap.size w3 w4 := (below1 w3 _).trans hb4
      have hc4 : Below w.heap.size w w4 := Below.to hc3 hb34
      have HR4 : Hid (Arr w4 w.heap.size 6 (fun _ => false)) := HR3.out.below hb34 HR3.out.lt
      have HX4 : Hid (Arr w4 w1.heap.size 6 X) := HX3.out.below hb34 HX3.out.lt
      have HY4' : Hid (Arr w4 w3.heap.size 6 Y) := HY4
      clear hz4 hk4 HY4)
   | (refine load6 (by rfl) _ (by rfl) w1.heap.size (by rfl) X HX4.out ?_)
   | (refine load6 (by rfl) _ (by rfl) w3.heap.size (by rfl) Y HY4'.out ?_)
   | (go_at_call 54; refine (both_is X Y _).mono ?_; rintro e w5 ⟨rfl, hb5⟩
      have HR5 : Hid (Arr w5 w.heap.size 6 (fun _ => false)) := HR4.out.below hb5 HR4.out.lt
      have hc5 : Below w.heap.size w w5 := Below.to hc4 hb5)
   | (refine store6 (by rfl) _ _ (by rfl) w.heap.size (fun _ => false) _ (by rfl) (by rfl) HR5.out ?_; intro w6 hb6 hz6 hk6 HR6))
 exact bodyPost_ret (result6 Tryz.results32 _ _ w.heap.size _ rfl HR6) rfl ⟨rfl, hc5.trans hb6⟩
def OutIs (gb : Nat) (G : Gph) (mk : Nat -> ByteArray) (X Y : Nat -> Bool) : Prop := ∀ w, Hid (Gm w gb G mk) -> Calls Tryz.prog 52 #[.pointer (some ⟨gb, 0, none⟩), .agg (six X)] w fun e w' => e = .returned (.agg (six Y)) ∧ Below w.heap.size w w'
def BothIs (X Y Z : Nat -> Bool) : Prop := ∀ w, Calls Tryz.prog 54 #[.agg (six X), .agg (six Y)] w fun e w' => e = .returned (.agg (six Z)) ∧ Below w.heap.size w w'
theorem holds_or_core (NX NY NB NN : Nat -> Bool) (gb : Nat) (G : Gph) (mk : Nat -> ByteArray) (f s A B : ByteArray) (X Y : Nat -> Bool) (hp : 0 < s.size) (h0 : s[0].toNat = 40) (HQ : PartsIs s A B 1 43) (HX : HoldIs gb G mk f A X) (HY : HoldIs gb G mk f B Y) (HNX : Hid (OutIs gb G mk X NX)) (HNY : Hid (OutIs gb G mk Y NY)) (HNB : Hid (BothIs NX NY NB)) (HNN : Hid (OutIs gb G mk NB NN)) :
   HoldIs gb G mk f s NN := by
 intro w HG
 have hgl := HG.out.lt
 have HR1 : Hid _ := arr_zero w 75
 have HQ' : Hid (PartsIs s A B 1 43) := HQ
 have HX' : Hid (HoldIs gb G mk f A X) := HX
 have HY' : Hid (HoldIs gb G mk f B Y) := HY
 clear HQ HX HY
 go_enter Tryz.func32, Tryz.ntmps32
 go_wp2_with (first
   | (go_at_call 53; refine (HQ'.out _).mono ?_; rintro e w0 ⟨rfl, n, rfl⟩
      have hc0 : Below w.heap.size w _ := below_drewN (below1 w (.cells #[.bool false, .bool false, .bool false, .bool false, .bool false, .bool false] 75)) n
      have HR0 : Hid (Arr _ w.heap.size 6 (fun _ => false)) := HR1.out.drewN n)
   | (go_at_call_of 32 A; refine (HX'.out _ (HG.out.below hc0 hgl)).mono ?_; rintro e w1 ⟨rfl, hb1⟩
      have hc1 : Below w.heap.size w w1 := Below.to hc0 hb1
      have HR1' : Hid (Arr w1 w.heap.size 6 (fun _ => false)) := HR0.out.below hb1 HR0.out.lt)
   | (refine store6 (by rfl) _ _ (by rfl) w1.heap.size (fun _ => false) X (by rfl) (by rfl) (arr_zero w1 75) ?_; intro w2 hb2 hz2 hk2 HX2
      have hb12 : Below w1.heap.size w1 w2 := (below1 w1 _).trans hb2
      have hc2 : Below w.heap.size w w2 := Below.to hc1 hb12
      have HR2 : Hid (Arr w2 w.heap.size 6 (fun _ => false)) := HR1'.out.below hb12 HR1'.out.lt
      have HX2' : Hid (Arr w2 w1.heap.size 6 X) := HX2
      clear hz2 hk2 HX2)
   | (go_at_call_of 32 B; refine (HY'.out _ (HG.out.below hc2 hgl)).mono ?_; rintro e w3 ⟨rfl, hb3⟩
      have hc3 : Below w.heap.size w w3 := Below.to hc2 hb3
      have HR3 : Hid (Arr w3 w.heap.size 6 (fun _ => false)) := HR2.out.below hb3 HR2.out.lt
      have HX3 : Hid (Arr w3 w1.heap.size 6 X) := HX2'.out.below hb3 HX2'.out.lt)
   | (refine store6 (by rfl) _ _ (by rfl) w3.heap.size (fun _ => false) Y (by rfl) (by rfl) (arr_zero w3 75) ?_; intro w4 hb4 hz4 hk4 HY4
      have hb34 : Below w3.heap.size w3 w4 := (below1 w3 _).trans hb4
      have hc4 : Below w.heap.size w w4 := Below.to hc3 hb34
      have HR4 : Hid (Arr w4 w.heap.size 6 (fun _ => false)) := HR3.out.below hb34 HR3.out.lt
      have HX4 : Hid (Arr w4 w1.heap.size 6 X) := HX3.out.below hb34 HX3.out.lt
      have HY4' : Hid (Arr w4 w3.heap.size 6 Y) := HY4
      clear hz4 hk4 HY4))
 have q1 : w.heap.size < w1.heap.size := HR1'.out.lt
 have q3 : w.heap.size < w3.heap.size := HR3.out.lt
 have HK : Hid (∀ w', Below w4.heap.size w4 w' -> (fun w' => (w'.cell? ⟨w1.heap.size, 0, none⟩ = some (.bool (X 0)) ∧ w'.cell? ⟨w1.heap.size, 1, none⟩ = some (.bool (X 1)) ∧ w'.cell? ⟨w1.heap.size, 2, none⟩ = some (.bool (X 2)) ∧ w'.cell? ⟨w1.heap.size, 3, none⟩ = some (.bool (X 3)) ∧ w'.cell? ⟨w1.heap.size, 4, none⟩ = some (.bool (X 4)) ∧ w'.cell? ⟨w1.heap.size, 5, none⟩ = some (.bool (X 5))) ∧ (w'.cell? ⟨w3.heap.size, 0, none⟩ = some (.bool (Y 0)) ∧ w'.cell? ⟨w3.heap.size, 1, none⟩ = some (.bool (Y 1)) ∧ w'.cell? ⟨w3.heap.size, 2, none⟩ = some (.bool (Y 2)) ∧ w'.cell? ⟨w3.heap.size, 3, none⟩ = some (.bool (Y 3)) ∧ w'.cell? ⟨w3.heap.size, 4, none⟩ = some (.bool (Y 4)) ∧ w'.cell? ⟨w3.heap.size, 5, none⟩ = some (.bool (Y 5)))) w') := fun w' h => ⟨cells1 (HX4.out.below h HX4.out.lt), cells1 (HY4'.out.below h HY4'.out.lt)⟩
 go_region_held3 (fun w' => (w'.cell? ⟨w1.heap.size, 0, none⟩ = some (.bool (X 0)) ∧ w'.cell? ⟨w1.heap.size, 1, none⟩ = some (.bool (X 1)) ∧ w'.cell? ⟨w1.heap.size, 2, none⟩ = some (.bool (X 2)) ∧ w'.cell? ⟨w1.heap.size, 3, none⟩ = some (.bool (X 3)) ∧ w'.cell? ⟨w1.heap.size, 4, none⟩ = some (.bool (X 4)) ∧ w'.cell? ⟨w1.heap.size, 5, none⟩ = some (.bool (X 5))) ∧ (w'.cell? ⟨w3.heap.size, 0, none⟩ = some (.bool (Y 0)) ∧ w'.cell? ⟨w3.heap.size, 1, none⟩ = some (.bool (Y 1)) ∧ w'.cell? ⟨w3.heap.size, 2, none⟩ = some (.bool (Y 2)) ∧ w'.cell? ⟨w3.heap.size, 3, none⟩ = some (.bool (Y 3)) ∧ w'.cell? ⟨w3.heap.size, 4, none⟩ = some (.bool (Y 4)) ∧ w'.cell? ⟨w3.heap.size, 5, none⟩ = some (.bool (Y 5)))) (first
     | exact HK.out _ (Below.refl _ _).drew
     | exact HK.out _ hd5
     | exact HK.out _ hd6
     | exact HK.out _ hd7
     | exact HK.out _ hd8
     | exact ⟨cells1 ((HX4.out.below hd8 HX4.out.lt).otherK hz9 hk9 (by omega)), cells1 ((HY4'.out.below hd8 HY4'.out.lt).otherK hz9 hk9 (by omega))⟩) (first
   | (go_at_call 54; refine (HNB.out _).mono ?_; rintro e w7 ⟨rfl, hb7⟩
      have hd7 : Below w4.heap.size w4 w7 := Below.to hd6 hb7)
   | (go_at_call_of 52 (X 0); refine (HNX.out _ (HG.out.below (hc4.drew) hgl)).mono ?_; rintro e w5 ⟨rfl, hb5⟩
      have hd5 : Below w4.heap.size w4 w5 := Below.dr hb5)
   | (go_at_call_of 52 (Y 0); refine (HNY.out _ (HG.out.below (Below.to hc4 hd5) hgl)).mono ?_; rintro e w6 ⟨rfl, hb6⟩
      have hd6 : Below w4.heap.size w4 w6 := Below.to hd5 hb6)
   | (go_at_call 52; refine (HNN.out _ (HG.out.below (Below.to hc4 hd7) hgl)).mono ?_; rintro e w8 ⟨rfl, hb8⟩
      have hd8 : Below w4.heap.size w4 w8 := Below.to hd7 hb8
      have HR8 : Hid (Arr w8 w.heap.size 6 (fun _ => false)) := HR4.out.below hd8 HR4.out.lt
      obtain ⟨w9, hrun9, hb9, hz9, hk9, HR9⟩ := stores6 HR8.out NN))
 all_goals
   go_wp2_with fail
   exact bodyPost_ret (result6 Tryz.results32 _ _ w.heap.size _ rfl HR9) rfl ⟨rfl, (Below.to hc4 hd8).trans hb9⟩
theorem holds_or (gb : Nat) (G : Gph) (mk : Nat -> ByteArray) (f s A B : ByteArray) (X Y : Nat -> Bool) (hp : 0 < s.size) (h0 : s[0].toNat = 40) (HQ : PartsIs s A B 1 43) (HX : HoldIs gb G mk f A X) (HY : HoldIs gb G mk f B Y) :
   HoldIs gb G mk f s (upto G.n fun j => !((upto G.n fun j => !(X j)) j && (upto G.n fun j => !(Y j)) j)) :=
 holds_or_core _ _ _ _ gb G mk f s A B X Y hp h0 HQ HX HY (fun w h => without_is gb G mk X w h) (fun w h => without_is gb G mk Y w h) (fun w => both_is _ _ w) (fun w h => without_is gb G mk _ w h)
def SomeIs (gb : Nat) (G : Gph) (mk : Nat -> ByteArray) (f : ByteArray) (c : Nat) (X Y Z : Nat -> Bool) : Prop := ∀ w, Hid (Gm w gb G mk) -> Calls Tryz.prog 56 #[.pointer (some ⟨gb, 0, none⟩), .int .u8 (c : Int), .agg (six X), .agg (six Y), .string f] w fun e w' => e = .returned (.agg (six Z)) ∧ Below w.heap.size w w'
theorem three_new (w : World) : Arr (((w.alloc (.cells #[.bool false, .bool false, .bool false, .bool false, .bool false, .bool false] 75)).alloc (.cells #[.bool false, .bool false, .bool false, .bool false, .bool false, .bool false] 75)).alloc (.cells #[.bool false, .bool false, .bool false, .bool false, .bool false, .bool false] 75)) w.heap.size 6 (fun _ => false)
   ∧ Arr (((w.alloc (.cells #[.bool false, .bool false, .bool false, .bool false, .bool false, .bool false] 75)).alloc (.cells #[.bool false, .bool false, .bool false, .bool false, .bool false, .bool false] 75)).alloc (.cells #[.bool false, .bool false, .bool false, .bool false, .bool false, .bool false] 75)) (w.heap.size + 1) 6 (fun _ => false)
   ∧ Arr (((w.alloc (.cells #[.bool false, .bool false, .bool false, .bool false, .bool false, .bool false] 75)).alloc (.cells #[.bool false, .bool false, .bool false, .bool false, .bool false, .bool false] 75)).alloc (.cells #[.bool false, .bool false, .bool false, .bool false, .bool false, .bool false] 75)) (w.heap.size + 1 + 1) 6 (fun _ => false) :=
 ⟨((arr_zero w 75).alloc _).alloc _, (arr_at (w.alloc _) (fun _ => false) 75 _ (by simp)).alloc _, arr_at _ (fun _ => false) 75 _ (by simp)⟩
theorem holds_ex (gb : Nat) (G : Gph) (mk : Nat -> ByteArray) (f s A : ByteArray) (X Z : Nat -> Bool) (hp : 0 < s.size) (hp1 : 1 < s.size) (hp2 : 2 <= s.size) (h0 : s[0].toNat = 69) (h1 : s[1].toNat = 88) (hA : s.extract 2 s.size = A) (HX : HoldIs gb G mk f A X) (HS : SomeIs gb G mk f 88 X (fun _ => false) Z) :
   HoldIs gb G mk f s Z := by
 intro w HG
 have hgl := HG.out.lt
 have H3 := three_new w
 have hc0 := below3 w (.cells #[.bool false, .bool false, .bool false, .bool false, .bool false, .bool false] 75) (.cells #[.bool false, .bool false, .bool false, .bool false, .bool false, .bool false] 75) (.cells #[.bool false, .bool false, .bool false, .bool false, .bool false, .bool false] 75)
 have HR0 : Hid _ := H3.1
 have HX0 : Hid _ := H3.2.1
 have HY0 : Hid _ := H3.2.2
 clear H3
 have HX' : Hid (HoldIs gb G mk f A X) := HX
 have HS' : Hid (SomeIs gb G mk f 88 X (fun _ => false) Z) := HS
 clear HX HS
 have k1 : (1 : Int) < (s.size : Int) := by omega
 have k2 : (2 : Int) <= (s.size : Int) := by omega
 go_enter Tryz.func32, Tryz.ntmps32
 go_wp2_with (first
   | (go_at_call 32; refine (HX'.out _ (HG.out.below hc0 hgl)).mono ?_; rintro e w1 ⟨rfl, hb1⟩
      have hc1 : Below w.heap.size w w1 := Below.to hc0 hb1
      have HR1 : Hid (Arr w1 w.heap.size 6 (fun _ => false)) := HR0.out.below hb1 HR0.out.lt
      have HX1 : Hid (Arr w1 (w.heap.size + 1) 6 (fun _ => false)) := HX0.out.below hb1 HX0.out.lt
      have HY1 : Hid (Arr w1 (w.heap.size + 1 + 1) 6 (fun _ => false)) := HY0.out.below hb1 HY0.out.lt)
   | (refine store6 (by rfl) _ _ (by rfl) (w.heap.size + 1) (fun _ => false) X (by rfl) (by rfl) HX1.out ?_; intro w2 hb2 hz2 hk2 HX2
      have hc2 : Below w.heap.size w w2 := hc1.trans (hb2.mono (by omega))
      have HR2 : Hid (Arr w2 w.heap.size 6 (fun _ => false)) := HR1.out.otherK hz2 hk2 (by omega)
      have HY2 : Hid (Arr w2 (w.heap.size + 1 + 1) 6 (fun _ => false)) := HY1.out.otherK hz2 hk2 (by omega)
      have HX2' : Hid (Arr w2 (w.heap.size + 1) 6 X) := HX2
      clear hz2 hk2 HX2)
   | (refine load6 (by rfl) _ (by rfl) (w.heap.size + 1) (by rfl) X HX2'.out ?_)
   | (refine load6 (by rfl) _ (by rfl) (w.heap.size + 1 + 1) (by rfl) (fun _ => false) HY2.out ?_)
   | (go_at_call 56; refine (HS'.out _ (HG.out.below hc2 hgl)).mono ?_; rintro e w5 ⟨rfl, hb5⟩
      have HR5 : Hid (Arr w5 w.heap.size 6 (fun _ => false)) := HR2.out.below hb5 HR2.out.lt
      have hc5 : Below w.heap.size w w5 := Below.to hc2 hb5)
   | (refine store6 (by rfl) _ _ (by rfl) w.heap.size (fun _ => false) Z (by rfl) (by rfl) HR5.out ?_; intro w6 hb6 hz6 hk6 HR6))
 exact bodyPost_ret (result6 Tryz.results32 _ _ w.heap.size _ rfl HR6) rfl ⟨rfl, hc5.trans hb6⟩
theorem holds_ew (gb : Nat) (G : Gph) (mk : Nat -> ByteArray) (f s A B : ByteArray) (c : Nat) (X Y Z : Nat -> Bool) (hp : 0 < s.size) (hp1 : 1 < s.size) (h0 : s[0].toNat = 69) (h1 : s[1].toNat = 91) (HQ : PartsIs s A B 2 c) (HX : HoldIs gb G mk f A X) (HY : HoldIs gb G mk f B Y) (HS : SomeIs gb G mk f c X Y Z) :
   HoldIs gb G mk f s Z := by
 intro w HG
 have hgl := HG.out.lt
 have H3 := three_new w
 have hc0 := below3 w (.cells #[.bool false, .bool false, .bool false, .bool false, .bool false, .bool false] 75) (.cells #[.bool false, .bool false, .bool false, .bool false, .bool false, .bool false] 75) (.cells #[.bool false, .bool false, .bool false, .bool false, .bool false, .bool false] 75)
 have HR0 : Hid _ := H3.1
 have HX0 : Hid _ := H3.2.1
 have HY0 : Hid _ := H3.2.2
 clear H3
 have HQ' : Hid (PartsIs s A B 2 c) := HQ
 have HX' : Hid (HoldIs gb G mk f A X) := HX
 have HY' : Hid (HoldIs gb G mk f B Y) := HY
 have HS' : Hid (SomeIs gb G mk f c X Y Z) := HS
 clear HQ HX HY HS
 have k1 : (1 : Int) < (s.size : Int) := by omega
 go_enter Tryz.func32, Tryz.ntmps32
 go_wp2_with (first
   | (go_at_call 53; refine (HQ'.out _).mono ?_; rintro e w0 ⟨rfl, n, rfl⟩
      have hcd := below_drewN hc0 n)
   | (go_at_call_of 32 A; refine (HX'.out _ (HG.out.below hcd hgl)).mono ?_; rintro e w1 ⟨rfl, hb1⟩
      have hc1 : Below w.heap.size w w1 := Below.to hcd hb1
      have HR1 : Hid (Arr w1 w.heap.size 6 (fun _ => false)) := (HR0.out.drewN n).below hb1 (HR0.out.drewN n).lt
      have HX1 : Hid (Arr w1 (w.heap.size + 1) 6 (fun _ => false)) := (HX0.out.drewN n).below hb1 (HX0.out.drewN n).lt
      have HY1 : Hid (Arr w1 (w.heap.size + 1 + 1) 6 (fun _ => false)) := (HY0.out.drewN n).below hb1 (HY0.out.drewN n).lt)
   | (refine store6 (by rfl) _ _ (by rfl) (w.heap.size + 1) (fun _ => false) X (by rfl) (by rfl) HX1.out ?_; intro w2 hb2 hz2 hk2 HX2
      have hc2 : Below w.heap.size w w2 := hc1.trans (hb2.mono (by omega))
      have HR2 : Hid (Arr w2 w.heap.size 6 (fun _ => false)) := HR1.out.otherK hz2 hk2 (by omega)
      have HY2 : Hid (Arr w2 (w.heap.size + 1 + 1) 6 (fun _ => false)) := HY1.out.otherK hz2 hk2 (by omega)
      have HX2' : Hid (Arr w2 (w.heap.size + 1) 6 X) := HX2
      clear hz2 hk2 HX2)
   | (go_at_call_of 32 B; refine (HY'.out _ (HG.out.below hc2 hgl)).mono ?_; rintro e w3 ⟨rfl, hb3⟩
      have hc3 : Below w.heap.size w w3 := Below.to hc2 hb3
      have HR3 : Hid (Arr w3 w.heap.size 6 (fun _ => false)) := HR2.out.below hb3 HR2.out.lt
      have HX3 : Hid (Arr w3 (w.heap.size + 1) 6 X) := HX2'.out.below hb3 HX2'.out.lt
      have HY3 : Hid (Arr w3 (w.heap.size + 1 + 1) 6 (fun _ => false)) := HY2.out.below hb3 HY2.out.lt)
   | (refine store6 (by rfl) _ _ (by rfl) (w.heap.size + 1 + 1) (fun _ => false) Y (by rfl) (by rfl) HY3.out ?_; intro w4 hb4 hz4 hk4 HY4
      have hc4 : Below w.heap.size w w4 := hc3.trans (hb4.mono (by omega))
      have HR4 : Hid (Arr w4 w.heap.size 6 (fun _ => false)) := HR3.out.otherK hz4 hk4 (by omega)
      have HX4 : Hid (Arr w4 (w.heap.size + 1) 6 X) := HX3.out.otherK hz4 hk4 (by omega)
      have HY4' : Hid (Arr w4 (w.heap.size + 1 + 1) 6 Y) := HY4
      clear hz4 hk4 HY4)
   | (refine load6 (by rfl) _ (by rfl) (w.heap.size + 1) (by rfl) X HX4.out ?_)
   | (refine load6 (by rfl) _ (by rfl) (w.heap.size + 1 + 1) (by rfl) Y HY4'.out ?_)
   | (go_at_call 56; refine (HS'.out _ (HG.out.below hc4 hgl)).mono ?_; rintro e w5 ⟨rfl, hb5⟩
      have HR5 : Hid (Arr w5 w.heap.size 6 (fun _ => false)) := HR4.out.below hb5 HR4.out.lt
      have hc5 : Below w.heap.size w w5 := Below.to hc4 hb5)
   | (refine store6 (by rfl) _ _ (by rfl) w.heap.size (fun _ => false) Z (by rfl) (by rfl) HR5.out ?_; intro w6 hb6 hz6 hk6 HR6))
 exact bodyPost_ret (result6 Tryz.results32 _ _ w.heap.size _ rfl HR6) rfl ⟨rfl, hc5.trans hb6⟩
theorem holds_ax (gb : Nat) (G : Gph) (mk : Nat -> ByteArray) (f s A : ByteArray) (X YY NX NY SZ Z : Nat -> Bool) (HYY : Hid (YY = fun _ => false)) (hp : 0 < s.size) (hp1 : 1 < s.size) (hp2 : 2 <= s.size) (h0 : s[0].toNat = 65) (h1 : s[1].toNat = 88) (hA : s.extract 2 s.size = A) (HX : HoldIs gb G mk f A X) (HNX : Hid (OutIs gb G mk X NX)) (HNY : Hid (OutIs gb G mk YY NY)) (HS : SomeIs gb G mk f 88 NX NY SZ) (HNN : Hid (OutIs gb G mk SZ Z)) :
   HoldIs gb G mk f s Z := by
 intro w HG
 have hgl := HG.out.lt
 have H3 := three_new w
 have hc0 := below3 w (.cells #[.bool false, .bool false, .bool false, .bool false, .bool false, .bool false] 75) (.cells #[.bool false, .bool false, .bool false, .bool false, .bool false, .bool false] 75) (.cells #[.bool false, .bool false, .bool false, .bool false, .bool false, .bool false] 75)
 have HR0 : Hid _ := H3.1
 have HX0 : Hid _ := H3.2.1
 have HY0 : Hid _ := H3.2.2
 clear H3
 have HX' : Hid (HoldIs gb G mk f A X) := HX
 have HS' : Hid (SomeIs gb G mk f 88 NX NY SZ) := HS
 clear HX HS
 have k1 : (1 : Int) < (s.size : Int) := by omega
 have k2 : (2 : Int) <= (s.size : Int) := by omega
 go_enter Tryz.func32, Tryz.ntmps32
 go_wp2_with (first
   | (go_at_call 32; refine (HX'.out _ (HG.out.below hc0 hgl)).mono ?_; rintro e w1 ⟨rfl, hb1⟩
      have hc1 : Below w.heap.size w w1 := Below.to hc0 hb1
      have HR1 : Hid (Arr w1 w.heap.size 6 (fun _ => false)) := HR0.out.below hb1 HR0.out.lt
      have HX1 : Hid (Arr w1 (w.heap.size + 1) 6 (fun _ => false)) := HX0.out.below hb1 HX0.out.lt
      have HY1 : Hid (Arr w1 (w.heap.size + 1 + 1) 6 (fun _ => false)) := HY0.out.below hb1 HY0.out.lt)
   | (refine store6 (by rfl) _ _ (by rfl) (w.heap.size + 1) (fun _ => false) X (by rfl) (by rfl) HX1.out ?_; intro w2 hb2 hz2 hk2 HX2
      have hc2 : Below w.heap.size w w2 := hc1.trans (hb2.mono (by omega))
      have HR2 : Hid (Arr w2 w.heap.size 6 (fun _ => false)) := HR1.out.otherK hz2 hk2 (by omega)
      have HY2 : Hid (Arr w2 (w.heap.size + 1 + 1) 6 YY) := (HY1.out.otherK hz2 hk2 (by omega)).congr fun j _ => by rw [HYY.out]
      have HX2' : Hid (Arr w2 (w.heap.size + 1) 6 X) := HX2
      clear hz2 hk2 HX2))
 have HK : Hid (∀ w', Below w2.heap.size w2 w' -> (fun w' => (w'.cell? ⟨(w.heap.size + 1), 0, none⟩ = some (.bool (X 0)) ∧ w'.cell? ⟨(w.heap.size + 1), 1, none⟩ = some (.bool (X 1)) ∧ w'.cell? ⟨(w.heap.size + 1), 2, none⟩ = some (.bool (X 2)) ∧ w'.cell? ⟨(w.heap.size + 1), 3, none⟩ = some (.bool (X 3)) ∧ w'.cell? ⟨(w.heap.size + 1), 4, none⟩ = some (.bool (X 4)) ∧ w'.cell? ⟨(w.heap.size + 1), 5, none⟩ = some (.bool (X 5))) ∧ (w'.cell? ⟨(w.heap.size + 1 + 1), 0, none⟩ = some (.bool (YY 0)) ∧ w'.cell? ⟨(w.heap.size + 1 + 1), 1, none⟩ = some (.bool (YY 1)) ∧ w'.cell? ⟨(w.heap.size + 1 + 1), 2, none⟩ = some (.bool (YY 2)) ∧ w'.cell? ⟨(w.heap.size + 1 + 1), 3, none⟩ = some (.bool (YY 3)) ∧ w'.cell? ⟨(w.heap.size + 1 + 1), 4, none⟩ = some (.bool (YY 4)) ∧ w'.cell? ⟨(w.heap.size + 1 + 1), 5, none⟩ = some (.bool (YY 5)))) w') := fun w' h => ⟨cells1 (HX2'.out.below h HX2'.out.lt), cells1 (HY2.out.below h HY2.out.lt)⟩
 go_region_held3 (fun w' => (w'.cell? ⟨(w.heap.size + 1), 0, none⟩ = some (.bool (X 0)) ∧ w'.cell? ⟨(w.heap.size + 1), 1, none⟩ = some (.bool (X 1)) ∧ w'.cell? ⟨(w.heap.size + 1), 2, none⟩ = some (.bool (X 2)) ∧ w'.cell? ⟨(w.heap.size + 1), 3, none⟩ = some (.bool (X 3)) ∧ w'.cell? ⟨(w.heap.size + 1), 4, none⟩ = some (.bool (X 4)) ∧ w'.cell? ⟨(w.heap.size + 1), 5, none⟩ = some (.bool (X 5))) ∧ (w'.cell? ⟨(w.heap.size + 1 + 1), 0, none⟩ = some (.bool (YY 0)) ∧ w'.cell? ⟨(w.heap.size + 1 + 1), 1, none⟩ = some (.bool (YY 1)) ∧ w'.cell? ⟨(w.heap.size + 1 + 1), 2, none⟩ = some (.bool (YY 2)) ∧ w'.cell? ⟨(w.heap.size + 1 + 1), 3, none⟩ = some (.bool (YY 3)) ∧ w'.cell? ⟨(w.heap.size + 1 + 1), 4, none⟩ = some (.bool (YY 4)) ∧ w'.cell? ⟨(w.heap.size + 1 + 1), 5, none⟩ = some (.bool (YY 5)))) (first
     | exact HK.out _ (Below.refl _ _).drew
     | exact HK.out _ hd5
     | exact HK.out _ hd6
     | exact HK.out _ hd7
     | exact HK.out _ hd8
     | exact ⟨cells1 ((HX2'.out.below hd8 HX2'.out.lt).otherK hz9 hk9 (by omega)), cells1 ((HY2.out.below hd8 HY2.out.lt).otherK hz9 hk9 (by omega))⟩) (first
   | (go_at_call 56; refine (HS'.out _ (HG.out.below (Below.to hc2 hd6) hgl)).mono ?_; rintro e w7 ⟨rfl, hb7⟩
      have hd7 : Below w2.heap.size w2 w7 := Below.to hd6 hb7)
   | (go_at_call_of 52 (X 0); refine (HNX.out _ (HG.out.below (hc2.drew) hgl)).mono ?_; rintro e w5 ⟨rfl, hb5⟩
      have hd5 : Below w2.heap.size w2 w5 := Below.dr hb5)
   | (go_at_call_of 52 (YY 0); refine (HNY.out _ (HG.out.below (Below.to hc2 hd5) hgl)).mono ?_; rintro e w6 ⟨rfl, hb6⟩
      have hd6 : Below w2.heap.size w2 w6 := Below.to hd5 hb6)
   | (go_at_call_of 52 SZ; refine (HNN.out _ (HG.out.below (Below.to hc2 hd7) hgl)).mono ?_; rintro e w8 ⟨rfl, hb8⟩
      have hd8 : Below w2.heap.size w2 w8 := Below.to hd7 hb8
      have HR8 : Hid (Arr w8 w.heap.size 6 (fun _ => false)) := HR2.out.below hd8 HR2.out.lt
      obtain ⟨w9, hrun9, hb9, hz9, hk9, HR9⟩ := stores6 HR8.out Z))
 all_goals
   go_wp2_with fail
   exact bodyPost_ret (result6 Tryz.results32 _ _ w.heap.size _ rfl HR9) rfl ⟨rfl, (Below.to hc2 hd8).trans hb9⟩
theorem holds_au (gb : Nat) (G : Gph) (mk : Nat -> ByteArray) (f s A B : ByteArray) (X YY NX NY SZ Z : Nat -> Bool) (hp : 0 < s.size) (hp1 : 1 < s.size) (h0 : s[0].toNat = 65) (h1 : s[1].toNat = 91) (HQ : PartsIs s A B 2 85) (HX : HoldIs gb G mk f A X) (HY : HoldIs gb G mk f B YY) (HNX : Hid (OutIs gb G mk X NX)) (HNY : Hid (OutIs gb G mk YY NY)) (HS : SomeIs gb G mk f 82 NX NY SZ) (HNN : Hid (OutIs gb G mk SZ Z)) :
   HoldIs gb G mk f s Z := by
 intro w HG
 have hgl := HG.out.lt
 have H3 := three_new w
 have hc0 := below3 w (.cells #[.bool false, .bool false, .bool false, .bool false, .bool false, .bool false] 75) (.cells #[.bool false, .bool false, .bool false, .bool false, .bool false, .bool false] 75) (.cells #[.bool false, .bool false, .bool false, .bool false, .bool false, .bool false] 75)
 have HR0 : Hid _ := H3.1
 have HX0 : Hid _ := H3.2.1
 have HY0 : Hid _ := H3.2.2
 clear H3
 have HQ' : Hid (PartsIs s A B 2 85) := HQ
 have HX' : Hid (HoldIs gb G mk f A X) := HX
 have HY' : Hid (HoldIs gb G mk f B YY) := HY
 have HS' : Hid (SomeIs gb G mk f 82 NX NY SZ) := HS
 clear HQ HX HY HS
 have k1 : (1 : Int) < (s.size : Int) := by omega
 go_enter Tryz.func32, Tryz.ntmps32
 go_wp2_with (first
   | (go_at_call 53; refine (HQ'.out _).mono ?_; rintro e w0 ⟨rfl, n, rfl⟩
      have hcd := below_drewN hc0 n)
   | (go_at_call_of 32 A; refine (HX'.out _ (HG.out.below hcd hgl)).mono ?_; rintro e w1 ⟨rfl, hb1⟩
      have hc1 : Below w.heap.size w w1 := Below.to hcd hb1
      have HR1 : Hid (Arr w1 w.heap.size 6 (fun _ => false)) := (HR0.out.drewN n).below hb1 (HR0.out.drewN n).lt
      have HX1 : Hid (Arr w1 (w.heap.size + 1) 6 (fun _ => false)) := (HX0.out.drewN n).below hb1 (HX0.out.drewN n).lt
      have HY1 : Hid (Arr w1 (w.heap.size + 1 + 1) 6 (fun _ => false)) := (HY0.out.drewN n).below hb1 (HY0.out.drewN n).lt)
   | (refine store6 (by rfl) _ _ (by rfl) (w.heap.size + 1) (fun _ => false) X (by rfl) (by rfl) HX1.out ?_; intro w2 hb2 hz2 hk2 HX2
      have hc2 : Below w.heap.size w w2 := hc1.trans (hb2.mono (by omega))
      have HR2 : Hid (Arr w2 w.heap.size 6 (fun _ => false)) := HR1.out.otherK hz2 hk2 (by omega)
      have HY2 : Hid (Arr w2 (w.heap.size + 1 + 1) 6 (fun _ => false)) := HY1.out.otherK hz2 hk2 (by omega)
      have HX2' : Hid (Arr w2 (w.heap.size + 1) 6 X) := HX2
      clear hz2 hk2 HX2)
   | (go_at_call_of 32 B; refine (HY'.out _ (HG.out.below hc2 hgl)).mono ?_; rintro e w3 ⟨rfl, hb3⟩
      have hc3 : Below w.heap.size w w3 := Below.to hc2 hb3
      have HR3 : Hid (Arr w3 w.heap.size 6 (fun _ => false)) := HR2.out.below hb3 HR2.out.lt
      have HX3 : Hid (Arr w3 (w.heap.size + 1) 6 X) := HX2'.out.below hb3 HX2'.out.lt
      have HY3 : Hid (Arr w3 (w.heap.size + 1 + 1) 6 (fun _ => false)) := HY2.out.below hb3 HY2.out.lt)
   | (refine store6 (by rfl) _ _ (by rfl) (w.heap.size + 1 + 1) (fun _ => false) YY (by rfl) (by rfl) HY3.out ?_; intro w4 hb4 hz4 hk4 HY4
      have hc4 : Below w.heap.size w w4 := hc3.trans (hb4.mono (by omega))
      have HR4 : Hid (Arr w4 w.heap.size 6 (fun _ => false)) := HR3.out.otherK hz4 hk4 (by omega)
      have HX4 : Hid (Arr w4 (w.heap.size + 1) 6 X) := HX3.out.otherK hz4 hk4 (by omega)
      have HY4' : Hid (Arr w4 (w.heap.size + 1 + 1) 6 YY) := HY4
      clear hz4 hk4 HY4))
 have HK : Hid (∀ w', Below w4.heap.size w4 w' -> (fun w' => (w'.cell? ⟨(w.heap.size + 1), 0, none⟩ = some (.bool (X 0)) ∧ w'.cell? ⟨(w.heap.size + 1), 1, none⟩ = some (.bool (X 1)) ∧ w'.cell? ⟨(w.heap.size + 1), 2, none⟩ = some (.bool (X 2)) ∧ w'.cell? ⟨(w.heap.size + 1), 3, none⟩ = some (.bool (X 3)) ∧ w'.cell? ⟨(w.heap.size + 1), 4, none⟩ = some (.bool (X 4)) ∧ w'.cell? ⟨(w.heap.size + 1), 5, none⟩ = some (.bool (X 5))) ∧ (w'.cell? ⟨(w.heap.size + 1 + 1), 0, none⟩ = some (.bool (YY 0)) ∧ w'.cell? ⟨(w.heap.size + 1 + 1), 1, none⟩ = some (.bool (YY 1)) ∧ w'.cell? ⟨(w.heap.size + 1 + 1), 2, none⟩ = some (.bool (YY 2)) ∧ w'.cell? ⟨(w.heap.size + 1 + 1), 3, none⟩ = some (.bool (YY 3)) ∧ w'.cell? ⟨(w.heap.size + 1 + 1), 4, none⟩ = some (.bool (YY 4)) ∧ w'.cell? ⟨(w.heap.size + 1 + 1), 5, none⟩ = some (.bool (YY 5)))) w') := fun w' h => ⟨cells1 (HX4.out.below h HX4.out.lt), cells1 (HY4'.out.below h HY4'.out.lt)⟩
 go_region_held3 (fun w' => (w'.cell? ⟨(w.heap.size + 1), 0, none⟩ = some (.bool (X 0)) ∧ w'.cell? ⟨(w.heap.size + 1), 1, none⟩ = some (.bool (X 1)) ∧ w'.cell? ⟨(w.heap.size + 1), 2, none⟩ = some (.bool (X 2)) ∧ w'.cell? ⟨(w.heap.size + 1), 3, none⟩ = some (.bool (X 3)) ∧ w'.cell? ⟨(w.heap.size + 1), 4, none⟩ = some (.bool (X 4)) ∧ w'.cell? ⟨(w.heap.size + 1), 5, none⟩ = some (.bool (X 5))) ∧ (w'.cell? ⟨(w.heap.size + 1 + 1), 0, none⟩ = some (.bool (YY 0)) ∧ w'.cell? ⟨(w.heap.size + 1 + 1), 1, none⟩ = some (.bool (YY 1)) ∧ w'.cell? ⟨(w.heap.size + 1 + 1), 2, none⟩ = some (.bool (YY 2)) ∧ w'.cell? ⟨(w.heap.size + 1 + 1), 3, none⟩ = some (.bool (YY 3)) ∧ w'.cell? ⟨(w.heap.size + 1 + 1), 4, none⟩ = some (.bool (YY 4)) ∧ w'.cell? ⟨(w.heap.size + 1 + 1), 5, none⟩ = some (.bool (YY 5)))) (first
     | exact HK.out _ (Below.refl _ _).drew
     | exact HK.out _ hd5
     | exact HK.out _ hd6
     | exact HK.out _ hd7
     | exact HK.out _ hd8
     | exact ⟨cells1 ((HX4.out.below hd8 HX4.out.lt).otherK hz9 hk9 (by omega)), cells1 ((HY4'.out.below hd8 HY4'.out.lt).otherK hz9 hk9 (by omega))⟩) (first
   | (go_at_call 56; refine (HS'.out _ (HG.out.below (Below.to hc4 hd6) hgl)).mono ?_; rintro e w7 ⟨rfl, hb7⟩
      have hd7 : Below w4.heap.size w4 w7 := Below.to hd6 hb7)
   | (go_at_call_of 52 (X 0); refine (HNX.out _ (HG.out.below (hc4.drew) hgl)).mono ?_; rintro e w5 ⟨rfl, hb5⟩
      have hd5 : Below w4.heap.size w4 w5 := Below.dr hb5)
   | (go_at_call_of 52 (YY 0); refine (HNY.out _ (HG.out.below (Below.to hc4 hd5) hgl)).mono ?_; rintro e w6 ⟨rfl, hb6⟩
      have hd6 : Below w4.heap.size w4 w6 := Below.to hd5 hb6)
   | (go_at_call_of 52 SZ; refine (HNN.out _ (HG.out.below (Below.to hc4 hd7) hgl)).mono ?_; rintro e w8 ⟨rfl, hb8⟩
      have hd8 : Below w4.heap.size w4 w8 := Below.to hd7 hb8
      have HR8 : Hid (Arr w8 w.heap.size 6 (fun _ => false)) := HR4.out.below hd8 HR4.out.lt
      obtain ⟨w9, hrun9, hb9, hz9, hk9, HR9⟩ := stores6 HR8.out Z))
 all_goals
   go_wp2_with fail
   exact bodyPost_ret (result6 Tryz.results32 _ _ w.heap.size _ rfl HR9) rfl ⟨rfl, (Below.to hc4 hd8).trans hb9⟩
theorem holds_ar (gb : Nat) (G : Gph) (mk : Nat -> ByteArray) (f s A B : ByteArray) (X YY NX NY SZ Z : Nat -> Bool) (hp : 0 < s.size) (hp1 : 1 < s.size) (h0 : s[0].toNat = 65) (h1 : s[1].toNat = 91) (HQ : PartsIs s A B 2 82) (HX : HoldIs gb G mk f A X) (HY : HoldIs gb G mk f B YY) (HNX : Hid (OutIs gb G mk X NX)) (HNY : Hid (OutIs gb G mk YY NY)) (HS : SomeIs gb G mk f 85 NX NY SZ) (HNN : Hid (OutIs gb G mk SZ Z)) :
   HoldIs gb G mk f s Z := by
 intro w HG
 have hgl := HG.out.lt
 have H3 := three_new w
 have hc0 := below3 w (.cells #[.bool false, .bool false, .bool false, .bool false, .bool false, .bool false] 75) (.cells #[.bool false, .bool false, .bool false, .bool false, .bool false, .bool false] 75) (.cells #[.bool false, .bool false, .bool false, .bool false, .bool false, .bool false] 75)
 have HR0 : Hid _ := H3.1
 have HX0 : Hid _ := H3.2.1
 have HY0 : Hid _ := H3.2.2
 clear H3
 have HQ' : Hid (PartsIs s A B 2 82) := HQ
 have HX' : Hid (HoldIs gb G mk f A X) := HX
 have HY' : Hid (HoldIs gb G mk f B YY) := HY
 have HS' : Hid (SomeIs gb G mk f 85 NX NY SZ) := HS
 clear HQ HX HY HS
 have k1 : (1 : Int) < (s.size : Int) := by omega
 go_enter Tryz.func32, Tryz.ntmps32
 go_wp2_with (first
   | (go_at_call 53; refine (HQ'.out _).mono ?_; rintro e w0 ⟨rfl, n, rfl⟩
      have hcd := below_drewN hc0 n)
   | (go_at_call_of 32 A; refine (HX'.out _ (HG.out.below hcd hgl)).mono ?_; rintro e w1 ⟨rfl, hb1⟩
      have hc1 : Below w.heap.size w w1 := Below.to hcd hb1
      have HR1 : Hid (Arr w1 w.heap.size 6 (fun _ => false)) := (HR0.out.drewN n).below hb1 (HR0.out.drewN n).lt
      have HX1 : Hid (Arr w1 (w.heap.size + 1) 6 (fun _ => false)) := (HX0.out.drewN n).below hb1 (HX0.out.drewN n).lt
      have HY1 : Hid (Arr w1 (w.heap.size + 1 + 1) 6 (fun _ => false)) := (HY0.out.drewN n).below hb1 (HY0.out.drewN n).lt)
   | (refine store6 (by rfl) _ _ (by rfl) (w.heap.size + 1) (fun _ => false) X (by rfl) (by rfl) HX1.out ?_; intro w2 hb2 hz2 hk2 HX2
      have hc2 : Below w.heap.size w w2 := hc1.trans (hb2.mono (by omega))
      have HR2 : Hid (Arr w2 w.heap.size 6 (fun _ => false)) := HR1.out.otherK hz2 hk2 (by omega)
      have HY2 : Hid (Arr w2 (w.heap.size + 1 + 1) 6 (fun _ => false)) := HY1.out.otherK hz2 hk2 (by omega)
      have HX2' : Hid (Arr w2 (w.heap.size + 1) 6 X) := HX2
      clear hz2 hk2 HX2)
   | (go_at_call_of 32 B; refine (HY'.out _ (HG.out.below hc2 hgl)).mono ?_; rintro e w3 ⟨rfl, hb3⟩
      have hc3 : Below w.heap.size w w3 := Below.to hc2 hb3
      have HR3 : Hid (Arr w3 w.heap.size 6 (fun _ => false)) := HR2.out.below hb3 HR2.out.lt
      have HX3 : Hid (Arr w3 (w.heap.size + 1) 6 X) := HX2'.out.below hb3 HX2'.out.lt
      have HY3 : Hid (Arr w3 (w.heap.size + 1 + 1) 6 (fun _ => false)) := HY2.out.below hb3 HY2.out.lt)
   | (refine store6 (by rfl) _ _ (by rfl) (w.heap.size + 1 + 1) (fun _ => false) YY (by rfl) (by rfl) HY3.out ?_; intro w4 hb4 hz4 hk4 HY4
      have hc4 : Below w.heap.size w w4 := hc3.trans (hb4.mono (by omega))
      have HR4 : Hid (Arr w4 w.heap.size 6 (fun _ => false)) := HR3.out.otherK hz4 hk4 (by omega)
      have HX4 : Hid (Arr w4 (w.heap.size + 1) 6 X) := HX3.out.otherK hz4 hk4 (by omega)
      have HY4' : Hid (Arr w4 (w.heap.size + 1 + 1) 6 YY) := HY4
      clear hz4 hk4 HY4))
 have HK : Hid (∀ w', Below w4.heap.size w4 w' -> (fun w' => (w'.cell? ⟨(w.heap.size + 1), 0, none⟩ = some (.bool (X 0)) ∧ w'.cell? ⟨(w.heap.size + 1), 1, none⟩ = some (.bool (X 1)) ∧ w'.cell? ⟨(w.heap.size + 1), 2, none⟩ = some (.bool (X 2)) ∧ w'.cell? ⟨(w.heap.size + 1), 3, none⟩ = some (.bool (X 3)) ∧ w'.cell? ⟨(w.heap.size + 1), 4, none⟩ = some (.bool (X 4)) ∧ w'.cell? ⟨(w.heap.size + 1), 5, none⟩ = some (.bool (X 5))) ∧ (w'.cell? ⟨(w.heap.size + 1 + 1), 0, none⟩ = some (.bool (YY 0)) ∧ w'.cell? ⟨(w.heap.size + 1 + 1), 1, none⟩ = some (.bool (YY 1)) ∧ w'.cell? ⟨(w.heap.size + 1 + 1), 2, none⟩ = some (.bool (YY 2)) ∧ w'.cell? ⟨(w.heap.size + 1 + 1), 3, none⟩ = some (.bool (YY 3)) ∧ w'.cell? ⟨(w.heap.size + 1 + 1), 4, none⟩ = some (.bool (YY 4)) ∧ w'.cell? ⟨(w.heap.size + 1 + 1), 5, none⟩ = some (.bool (YY 5)))) w') := fun w' h => ⟨cells1 (HX4.out.below h HX4.out.lt), cells1 (HY4'.out.below h HY4'.out.lt)⟩
 go_region_held3 (fun w' => (w'.cell? ⟨(w.heap.size + 1), 0, none⟩ = some (.bool (X 0)) ∧ w'.cell? ⟨(w.heap.size + 1), 1, none⟩ = some (.bool (X 1)) ∧ w'.cell? ⟨(w.heap.size + 1), 2, none⟩ = some (.bool (X 2)) ∧ w'.cell? ⟨(w.heap.size + 1), 3, none⟩ = some (.bool (X 3)) ∧ w'.cell? ⟨(w.heap.size + 1), 4, none⟩ = some (.bool (X 4)) ∧ w'.cell? ⟨(w.heap.size + 1), 5, none⟩ = some (.bool (X 5))) ∧ (w'.cell? ⟨(w.heap.size + 1 + 1), 0, none⟩ = some (.bool (YY 0)) ∧ w'.cell? ⟨(w.heap.size + 1 + 1), 1, none⟩ = some (.bool (YY 1)) ∧ w'.cell? ⟨(w.heap.size + 1 + 1), 2, none⟩ = some (.bool (YY 2)) ∧ w'.cell? ⟨(w.heap.size + 1 + 1), 3, none⟩ = some (.bool (YY 3)) ∧ w'.cell? ⟨(w.heap.size + 1 + 1), 4, none⟩ = some (.bool (YY 4)) ∧ w'.cell? ⟨(w.heap.size + 1 + 1), 5, none⟩ = some (.bool (YY 5)))) (first
     | exact HK.out _ (Below.refl _ _).drew
     | exact HK.out _ hd5
     | exact HK.out _ hd6
     | exact HK.out _ hd7
     | exact HK.out _ hd8
     | exact ⟨cells1 ((HX4.out.below hd8 HX4.out.lt).otherK hz9 hk9 (by omega)), cells1 ((HY4'.out.below hd8 HY4'.out.lt).otherK hz9 hk9 (by omega))⟩) (first
   | (go_at_call 56; refine (HS'.out _ (HG.out.below (Below.to hc4 hd6) hgl)).mono ?_; rintro e w7 ⟨rfl, hb7⟩
      have hd7 : Below w4.heap.size w4 w7 := Below.to hd6 hb7)
   | (go_at_call_of 52 (X 0); refine (HNX.out _ (HG.out.below (hc4.drew) hgl)).mono ?_; rintro e w5 ⟨rfl, hb5⟩
      have hd5 : Below w4.heap.size w4 w5 := Below.dr hb5)
   | (go_at_call_of 52 (YY 0); refine (HNY.out _ (HG.out.below (Below.to hc4 hd5) hgl)).mono ?_; rintro e w6 ⟨rfl, hb6⟩
      have hd6 : Below w4.heap.size w4 w6 := Below.to hd5 hb6)
   | (go_at_call_of 52 SZ; refine (HNN.out _ (HG.out.below (Below.to hc4 hd7) hgl)).mono ?_; rintro e w8 ⟨rfl, hb8⟩
      have hd8 : Below w4.heap.size w4 w8 := Below.to hd7 hb8
      have HR8 : Hid (Arr w8 w.heap.size 6 (fun _ => false)) := HR4.out.below hd8 HR4.out.lt
      obtain ⟨w9, hrun9, hb9, hz9, hk9, HR9⟩ := stores6 HR8.out Z))
 all_goals
   go_wp2_with fail
   exact bodyPost_ret (result6 Tryz.results32 _ _ w.heap.size _ rfl HR9) rfl ⟨rfl, (Below.to hc4 hd8).trans hb9⟩
theorem some_is (gb : Nat) (G : Gph) (ok : G.ok) (mk : Nat -> ByteArray) (f : ByteArray) (hf : f.size <= 1000) (c : Nat) (hc : c = 88 ∨ c = 85 ∨ c = 82) (X Y : Nat -> Bool) : SomeIs gb G mk f c X Y (upto G.n (someB G (fsOf f) c X Y)) := by
 intro w h
 rcases hc with rfl | rfl | rfl
 · exact someX_is gb G ok mk X Y f w hf h
 · exact someU_is gb G ok mk X Y f w hf h
 · exact someR_is gb G ok mk X Y f w hf h
theorem out_is (gb : Nat) (G : Gph) (mk : Nat -> ByteArray) (X : Nat -> Bool) : OutIs gb G mk X (upto G.n fun j => !(X j)) := fun w h => without_is gb G mk X w h
theorem parts1_is {s : ByteArray} {l r : Fm} {sg : Nat} (h : s.data.toList = 40 :: (txt l ++ b8 sg :: (txt r ++ [41]))) (gl : good l) (hsg : sg < 256) (hz : s.size <= 60) :
   PartsIs s (s.extract 1 (1 + (txt l).length)) (s.extract (1 + (txt l).length + 1) (s.size - 1)) 1 sg := by
 have hsz := size_of h
 simp only [List.length_cons, List.length_append, List.length_nil] at hsz
 have hend := end_at1 h gl
 obtain ⟨m, hm⟩ : ∃ m, m = 1 + (txt l).length := ⟨_, rfl⟩
 have hms : m < s.size := by omega
 have hmid : s[m].toNat = sg := by rw [at_mid1 h m hm hms, b8_nat hsg]
 rw [<- hm] at hend ⊢
 intro w
 exact parts_core s _ _ 1 m (m + 1) (s.size - 1) sg w hz (by omega) hms hmid hend rfl rfl (i64_add1 m (by omega)) (i64_sub1 s.size (by omega) (by omega)) (by omega) (by omega) (by omega) (by omega) (by omega) (by omega) (by omega) (by omega) (by omega) (by omega) (by omega)
theorem parts2_is {s : ByteArray} {l r : Fm} {sg : Nat} {d : UInt8} (h : s.data.toList = d :: 91 :: (txt l ++ b8 sg :: (txt r ++ [93]))) (gl : good l) (hsg : sg < 256) (hz : s.size <= 60) :
   PartsIs s (s.extract 2 (2 + (txt l).length)) (s.extract (2 + (txt l).length + 1) (s.size - 1)) 2 sg := by
 have hsz := size_of h
 simp only [List.length_cons, List.length_append, List.length_nil] at hsz
 have hend := end_at2 h gl
 obtain ⟨m, hm⟩ : ∃ m, m = 2 + (txt l).length := ⟨_, rfl⟩
 have hms : m < s.size := by omega
 have hmid : s[m].toNat = sg := by rw [at_mid2 h m hm hms, b8_nat hsg]
 rw [<- hm] at hend ⊢
 intro w
 exact parts_core s _ _ 2 m (m + 1) (s.size - 1) sg w hz (by omega) hms hmid hend rfl rfl (i64_add1 m (by omega)) (i64_sub1 s.size (by omega) (by omega)) (by omega) (by omega) (by omega) (by omega) (by omega) (by omega) (by omega) (by omega) (by omega) (by omega) (by omega)
theorem upto_and {n : Nat} {g : Nat -> Bool} : (fun j => decide (j < n) && g j) = upto n g := by
 funext j; unfold upto; by_cases h : j < n <;> simp [h]
theorem upto_not {n : Nat} {g : Nat -> Bool} : upto n (fun j => !(upto n g j)) = fun j => decide (j < n) && !(g j) := by
 rw [upto_and]
 exact upto_congr fun j hj => by rw [upto_lt hj]
theorem HoldIs.congr {gb : Nat} {G : Gph} {mk : Nat -> ByteArray} {f s : ByteArray} {X Y : Nat -> Bool} (h : HoldIs gb G mk f s X) (e : X = Y) : HoldIs gb G mk f s Y := e ▸ h
theorem someX_any (G : Gph) (fs : List Nat) (X Y Z : Nat -> Bool) : someB G fs 88 X Y = someB G fs 88 X Z := by
 funext i; simp [someB]
theorem holds_any (gb : Nat) (G : Gph) (ok : G.ok) (mk : Nat -> ByteArray) (f : ByteArray) (hf : f.size <= 1000) : ∀ (t : Fm), good t -> ∀ s : ByteArray, s.data.toList = txt t -> s.size <= 60 -> HoldIs gb G mk f s (upto G.n (holdsB G (fsOf f) t)) := by
 intro t
 induction t with
 | nil => intro h; exact absurd h (by simp [good])
 | node sg wy u l r ihl ihr =>
   intro h s hs hz
   rcases good_cases h with ⟨c, e, hc, ht⟩ | ⟨x, e, hx, ht⟩ | ⟨q, x, y, e, hq, hx, hy, ht⟩ | ⟨v, x, e, hv, hx, ht⟩ | ⟨q, v, x, y, e, hq, hv, hx, hy, ht⟩
   · rw [ht] at hs
     rw [e]
     have hsz := size_of hs
     have hp : 0 < s.size := by rw [hsz]; simp
     have h0 : s[0].toNat = c := by rw [at0 hs hp, b8_nat (isAtom_lt hc)]
     simp only [isAtom, decide_eq_true_eq] at hc
     refine (holds_atom gb G mk f s c hp h0 (by rw [beq_eq_false_iff_ne]; omega) (by rw [beq_eq_false_iff_ne]; omega) (by rw [bne_iff_ne]; omega) (by rw [bne_iff_ne]; omega)).congr ?_
     refine upto_congr fun j _ => ?_
     rw [holdsB, if_neg (by omega), if_neg (by omega), if_neg (by omega), if_neg (by omega)]
     by_cases h84 : c = 84
     · rw [if_pos h84, h84]; rfl
     · rw [if_neg h84, beq_false_of_ne h84, Bool.false_or]
   · rw [ht] at hs
     injection e with e3 e0 _ e1 e2
     subst e3 e0 e1 e2
     have hsz := size_of hs
     simp only [List.length_cons] at hsz
     have hp : 0 < s.size := by omega
     have hX := ihl hx _ (ext_tail1 hs) (by rw [ByteArray.size_extract]; omega)
     refine (holds_not gb G mk f s _ _ hp (by omega) (at0 hs hp) rfl hX).congr ?_
     refine upto_congr fun j hj => ?_
     rw [upto_lt hj, holdsB, if_pos rfl]
   · rw [ht] at hs
     injection e with e3 e0 _ e1 e2
     subst e3 e0 e1 e2
     have hsz := size_of hs
     simp only [List.length_cons, List.length_append, List.length_nil] at hsz
     have hp : 0 < s.size := by omega
     have hQ := parts1_is hs hx (by omega) hz
     have hX := ihl hx _ (ext_left1 hs) (by rw [size_of (ext_left1 hs)]; omega)
     have hY := ihr hy _ (ext_right1 hs) (by rw [size_of (ext_right1 hs)]; omega)
     rcases hq with rfl | rfl
     · refine (holds_and gb G mk f s _ _ _ _ hp (at0 hs hp) hQ hX hY).congr ?_
       funext j
       unfold upto
       by_cases hj : j < G.n
       · simp [hj, holdsB]
       · simp [hj]
     · refine (holds_or gb G mk f s _ _ _ _ hp (at0 hs hp) hQ hX hY).congr ?_
       refine upto_congr fun j hj => ?_
       simp [upto_lt hj, holdsB]
   · rw [ht] at hs
     injection e with e3 e0 _ e1 e2
     subst e3 e0 e1 e2
     have hsz := size_of hs
     simp only [List.length_cons] at hsz
     have hp : 0 < s.size := by omega
     have hp1 : 1 < s.size := by omega
     have hX := ihl hx _ (ext_tail2 hs) (by rw [size_of (ext_tail2 hs)]; omega)
     have h1 := at1 hs hp1
     rcases hv with rfl | rfl
     · refine (holds_ex gb G mk f s _ _ _ hp hp1 (by omega) (at0 hs hp) h1 rfl hX (some_is gb G ok mk f hf 88 (.inl rfl) _ _)).congr ?_
       refine upto_congr fun j hj => ?_
       rw [holdsB, if_neg (by omega), if_neg (by omega), if_neg (by omega), if_pos (by omega), if_pos rfl, upto_and, someX_any G (fsOf f) _ _ (fun j => decide (j < G.n) && holdsB G (fsOf f) .nil j)]
     · refine (holds_ax gb G mk f s _ _ _ _ _ _ _ rfl hp hp1 (by omega) (at0 hs hp) h1 rfl hX (out_is gb G mk _) (out_is gb G mk _) (some_is gb G ok mk f hf 88 (.inl rfl) _ _) (out_is gb G mk _)).congr ?_
       refine upto_congr fun j hj => ?_
       rw [holdsB, if_neg (by omega), if_neg (by omega), if_neg (by omega), if_pos (by omega), if_neg (by omega), upto_lt hj, upto_not]
       rw [someX_any G (fsOf f) _ _ (fun j => decide (j < G.n) && !(holdsB G (fsOf f) .nil j))]
       rfl
   · rw [ht] at hs
     injection e with e3 e0 _ e1 e2
     subst e3 e0 e1 e2
     have hsz := size_of hs
     simp only [List.length_cons, List.length_append, List.length_nil] at hsz
     have hp : 0 < s.size := by omega
     have hp1 : 1 < s.size := by omega
     have hQ := parts2_is hs hx (by omega) hz
     have hX := ihl hx _ (ext_left2 hs) (by rw [size_of (ext_left2 hs)]; omega)
     have hY := ihr hy _ (ext_right2 hs) (by rw [size_of (ext_right2 hs)]; omega)
     have h1 := at1 hs hp1
     rcases hv with rfl | rfl
     · refine (holds_ew gb G mk f s _ _ _ _ _ _ hp hp1 (at0 hs hp) h1 hQ hX hY (some_is gb G ok mk f hf _ (.inr hq) _ _)).congr ?_
       refine upto_congr fun j hj => ?_
       rw [holdsB, if_neg (by omega), if_neg (by omega), if_neg (by omega), if_pos (by omega), if_pos rfl, upto_and, upto_and]
     · rcases hq with rfl | rfl
       · refine (holds_au gb G mk f s _ _ _ _ _ _ _ _ hp hp1 (at0 hs hp) h1 hQ hX hY (out_is gb G mk _) (out_is gb G mk _) (some_is gb G ok mk f hf 82 (by omega) _ _) (out_is gb G mk _)).congr ?_
         refine upto_congr fun j hj => ?_
         rw [holdsB, if_neg (by omega), if_neg (by omega), if_neg (by omega), if_pos (by omega), if_neg (by omega), upto_lt hj, upto_not, upto_not]
         rfl
       · refine (holds_ar gb G mk f s _ _ _ _ _ _ _ _ hp hp1 (at0 hs hp) h1 hQ hX hY (out_is gb G mk _) (out_is gb G mk _) (some_is gb G ok mk f hf 85 (by omega) _ _) (out_is gb G mk _)).congr ?_
         refine upto_congr fun j hj => ?_
         rw [holdsB, if_neg (by omega), if_neg (by omega), if_neg (by omega), if_pos (by omega), if_neg (by omega), upto_lt hj, upto_not, upto_not]
         rfl
end Go.Proofs.YtcfbfdjmcabnkabGreat
namespace Go.Proofs.YtcfbfdjmcabnkabGreat
open Go.RowKit Fw
set_option linter.unusedVariables false
def gphOf (s : ByteArray) : Gph where
 n := (run s 6 0).2.2.length
 e := mat s (run s 6 0).2.2
 m := fun i c => (mrk s (run s 6 0).2.2 i).data.toList.any fun d => d.toNat == c
structure Gq (w : World) (gb n : Nat) (M : Nat -> Nat -> Bool) (mk : Nat -> ByteArray) : Prop where
 lt : gb < w.heap.size
 cn : w.cell? ⟨gb, 0, none⟩ = some (.int .i64 (n : Int))
 ce : ∀ i j, i < 6 -> j < 6 -> w.cell? ⟨gb, 1 + i * 6 + j, none⟩ = some (.bool (M i j))
 cm : ∀ i, i < 6 -> w.cell? ⟨gb, 37 + i, none⟩ = some (.string (mk i))
 fz : ∀ o, o < 43 -> w.frozen? ⟨gb, o, none⟩ = false
theorem Gq.edge {w : World} {gb n : Nat} {M : Nat -> Nat -> Bool} {mk : Nat -> ByteArray} (h : Gq w gb n M mk) (i d : Nat) (hi : i < 6) (hd : d < 6) : Gq (w.setCell ⟨gb, 1 + i * 6 + d, none⟩ (.bool true)) gb n (fun x y => M x y || (x == i && y == d)) mk := by
 refine ⟨by simpa using h.lt, ?_, ?_, ?_, ?_⟩
 · rw [cell_otherS (addrS (by omega))]; exact h.cn
 · intro x y hx hy
   by_cases e : x = i ∧ y = d
   · obtain ⟨rfl, rfl⟩ := e
     rw [cell_sameS (h.ce x y hx hy)]
     simp
   · rw [cell_otherS (addrS (by omega)), h.ce x y hx hy]
     have : (x == i && y == d) = false := by
       rw [Bool.eq_false_iff]
       intro hc
       simp only [Bool.and_eq_true, beq_iff_eq] at hc
       exact e hc
     rw [this, Bool.or_false]
 · intro x hx
   rw [cell_otherS (addrS (by omega))]
   exact h.cm x hx
 · intro o ho
   rw [World.frozen?_setCell]
   exact h.fz o ho
theorem Gq.mark {w : World} {gb n : Nat} {M : Nat -> Nat -> Bool} {mk : Nat -> ByteArray} (h : Gq w gb n M mk) (i : Nat) (hi : i < 6) (t : ByteArray) : Gq (w.setCell ⟨gb, 37 + i, none⟩ (.string t)) gb n M (fun x => if x = i then t else mk x) := by
 refine ⟨by simpa using h.lt, ?_, ?_, ?_, ?_⟩
 · rw [cell_otherS (addrS (by omega))]; exact h.cn
 · intro x y hx hy
   rw [cell_otherS (addrS (by omega))]
   exact h.ce x y hx hy
 · intro x hx
   by_cases e : x = i
   · subst e
     rw [cell_sameS (h.cm x hx)]
     simp
   · rw [cell_otherS (addrS (by omega)), h.cm x hx, if_neg e]
 · intro o ho
   rw [World.frozen?_setCell]
   exact h.fz o ho
theorem Gq.drew {w : World} {gb n : Nat} {M : Nat -> Nat -> Bool} {mk : Nat -> ByteArray} (h : Gq w gb n M mk) : Gq w.drew gb n M mk := ⟨h.lt, h.cn, h.ce, h.cm, h.fz⟩
theorem Gq.congr {w : World} {gb n : Nat} {M : Nat -> Nat -> Bool} {mk mk' : Nat -> ByteArray} (h : Gq w gb n M mk) (e : ∀ i, i < 6 -> mk i = mk' i) : Gq w gb n M mk' := ⟨h.lt, h.cn, h.ce, fun i hi => by rw [<- e i hi]; exact h.cm i hi, h.fz⟩
def cells43 (n : Int) : Array Value := (Value.int .i64 n :: (List.replicate 36 (.bool false) ++ List.replicate 6 (.string ByteArray.empty))).toArray
theorem built43 (n : Int) : Tryz.prog.built 79 [(0, .int .i64 n)] = some (cells43 n) := by kernel_rfl
theorem build71 {ops : Array Oper} {rest : List Oper} {o : Oper} {a : Act} {w : World} {Q : Exit -> Act -> World -> Prop} (hgd : o.guard = none) (x : Operand) (ho : o.op = .build 79 #[(0, x)])
   (n : Int) (hx : a.eval x = .int .i64 n)
   (h : wpList Tryz.prog ops Q rest (a.put o.dst (.agg (cells43 n))) w) : wpList Tryz.prog ops Q (o :: rest) a w := by
 have hv : ((#[(0, x)] : Array (Nat × Operand)).map fun (i, x) => (i, a.eval x)).toList = [(0, .int .i64 n)] := by simp [hx]
 refine wpList_build hgd 79 #[(0, x)] ho (by rw [hv, built43]; rfl) ?_
 rw [hv, built43]
 exact h
theorem gq_new (w : World) (n : Nat) : Gq (w.alloc (.cells (cells43 n) 79)) w.heap.size n (fun _ _ => false) (fun _ => ByteArray.empty) := by
 have hb := heap_alloc_new w (.cells (cells43 n) 79)
 refine ⟨by simp, ?_, fun i j hi hj => ?_, fun i hi => ?_, fun o _ => frozen_of_row _ _ _ _ _ hb⟩
 · rw [cell_of_row _ _ _ _ _ _ hb]; rfl
 · rw [cell_of_row _ _ _ _ _ _ hb]
   simp only [cells43, List.getElem?_toArray]
   rw [show 1 + i * 6 + j = (i * 6 + j) + 1 from by omega, List.getElem?_cons_succ, List.getElem?_append_left (by simp; omega), List.getElem?_replicate, if_pos (by omega)]
 · rw [cell_of_row _ _ _ _ _ _ hb]
   simp only [cells43, List.getElem?_toArray]
   rw [show 37 + i = (36 + i) + 1 from by omega, List.getElem?_cons_succ, List.getElem?_append_right (by simp), List.getElem?_replicate, if_pos (by simp; omega)]
theorem flat_get0 (s : ByteArray) (p : Nat) : ∀ (acc : List Nat) (i : Nat), acc[i]? = some p -> (flat s acc)[i * 2]? = some (.string (s.extract p (arrow s p))) := by
 intro acc
 induction acc with
 | nil => intro i h; simp at h
 | cons q r ih =>
   intro i h
   cases i with
   | zero =>
     simp at h
     subst h
     simp [flat, two]
   | succ i =>
     have h' := ih i (by simpa using h)
     have e : (i + 1) * 2 = (i * 2) + 2 := by omega
     rw [e]
     simpa [flat, two] using h'
theorem take_snoc {l : List Nat} {i p : Nat} (h : l[i]? = some p) : l.take i ++ [p] = l.take (i + 1) := by
 rw [List.take_add_one, h]; rfl
theorem mat_nil (s : ByteArray) : mat s [] = fun _ _ => false := by funext i j; simp [mat]
theorem mrk_step {s : ByteArray} {acc : List Nat} {i p : Nat} (h : acc[i]? = some p) (x : Nat) : (if x = i then s.extract p (arrow s p) else mrk s (acc.take i) x) = mrk s (acc.take (i + 1)) x := by
 obtain ⟨hlt, hp⟩ := List.getElem?_eq_some_iff.1 h
 by_cases e : x = i
 · subst e
   rw [if_pos rfl, mrk_some]
   rw [List.getElem?_take, if_pos (by omega)]
   exact h
 · rw [if_neg e]
   unfold mrk
   rw [List.getElem?_take, List.getElem?_take]
   by_cases h1 : x < i
   · rw [if_pos h1, if_pos (by omega)]
   · rw [if_neg h1, if_neg (by omega)]
theorem of_is (s : ByteArray) (w : World) (hs : s.size <= 210) (hr0 : (run s 6 0).1 = true) :
   Calls Tryz.prog 31 #[.string s] w fun e w' => Below w.heap.size w w' ∧ ∃ gb, w.heap.size <= gb ∧ e = .returned (.pointer (some ⟨gb, 0, none⟩)) ∧ Gq w' gb (run s 6 0).2.2.length (mat s (run s 6 0).2.2) (mrk s (run s 6 0).2.2) := by
 go_enter Tryz.func31, Tryz.ntmps31
 go_wp2_with fail
 refine (states_any s _ hs).mono ?_
 rintro e w1 ⟨hbel, ⟨hr, v, rfl, hown⟩ | ⟨hr, rfl⟩⟩
 · obtain ⟨acc, HA⟩ : ∃ acc, Hid (acc = (run s 6 0).2.2) := ⟨_, rfl⟩
   rw [<- HA.out] at hown
   have hst := run_starts s 6 0 (by omega)
   rw [<- HA.out] at hst
   obtain ⟨hlen, hst⟩ := hst
   clear hr hr0
   obtain ⟨a, cap, hv⟩ : ∃ a cap, v = .slice a acc.length cap := by
     rcases hown.2 with ⟨h1, h2⟩ | ⟨g, cap, cur, h1, _⟩
     · exact ⟨none, 0, by rw [h1, h2]⟩
     · exact ⟨_, _, h1⟩
   rw [hv] at hown ⊢
   clear hv
   have HG0 : Hid (Gq _ w1.heap.size acc.length (fun _ _ => false) (fun _ => ByteArray.empty)) := gq_new w1 acc.length
   go_wp2_with (refine build71 (by rfl) _ (by rfl) (acc.length : Int) (by rfl) ?_)
   go_loopw [6] (fun q wr => ∃ i : Nat, i <= acc.length ∧ q = .int .i64 i ∧ Below w1.heap.size w1 wr ∧ Hid (Gq wr w1.heap.size acc.length (mat s (acc.take i)) (mrk s (acc.take i)))) (fun q _ => acc.length - (intOf q).toNat)
   case atStart =>
     refine ⟨0, by omega, rfl, below1 w1 _, ?_⟩
     show Gq _ _ _ _ _
     rw [List.take_zero, mat_nil]
     exact HG0.out.congr fun i _ => (mrk_none (by simp)).symm
   case round =>
     clear HG0
     obtain ⟨i, hi, rfl, hb1, HG⟩ := hrel
     by_cases hlt : i < acc.length
     · obtain ⟨g, cap2, hv2, hg, hgl⟩ := hown.form (by omega)
       have hpi : acc[i]? = some acc[i] := List.getElem?_eq_getElem hlt
       obtain ⟨p, hp⟩ : ∃ p, acc[i]? = some p := ⟨_, hpi⟩
       have hcell := hown.cells (g := g) (by rw [hv2]; rfl) (i * 2 + 1) _ (flat_get s p acc i hp)
       have hcell0 := hown.cells (g := g) (by rw [hv2]; rfl) (i * 2) _ (flat_get0 s p acc i hp)
       simp only [Value.slice.injEq] at hv2
       obtain ⟨rfl, _, rfl⟩ := hv2
       have hq := hst p (List.mem_of_getElem? hp)
       obtain ⟨T, HT⟩ : ∃ T, Hid (T = s.extract (arrow s p + 1) (stop s p)) := ⟨_, rfl⟩
       obtain ⟨U, HU⟩ : ∃ U, Hid (U = s.extract p (arrow s p)) := ⟨_, rfl⟩
       rw [<- HT.out] at hcell
       rw [<- HU.out] at hcell0
       have hc1 : w1.cell? ⟨g, i * 2 + 1, none⟩ = some (.string T) := by simpa [Addr.add] using hcell
       have hc0 : w1.cell? ⟨g, i * 2, none⟩ = some (.string U) := by
         have e : (⟨g, 0, none⟩ : Addr).add (i * 2) = ⟨g, i * 2, none⟩ := by unfold Addr.add; split <;> simp_all
         rw [<- e]; exact hcell0
       have hd1 := (hb1.cell (p := ⟨g, i * 2 + 1, none⟩) hgl).trans hc1
       have hd0 := (hb1.cell (p := ⟨g, i * 2, none⟩) hgl).trans hc0
       have hTs : T.size = many s p := by
         rw [HT.out, ByteArray.size_extract]
         have := many_stop s p
         omega
       have HTb : Hid (∀ k (h : k < T.size), T[k].toNat = byteAt s (arrow s p + 1 + k)) := extract_get' s T _ _ HT.out
       have hm := HG.out.cm i (by omega)
       have hz := HG.out.fz (37 + i) (by omega)
       have i0 : (0 : Int) <= (i : Int) := by omega
       have i1 : (i : Int) < 6 := by omega
       clear hcell hcell0
       go_wp2_with fail
       go_region
       all_goals
         go_wp2_with fail
         go_loopw [7] (fun q wr => ∃ k : Nat, k <= many s p ∧ q = .int .i64 k ∧ Below w1.heap.size w1 wr ∧ Hid (Gq wr w1.heap.size acc.length (marked s (arrow s p + 1) i (mat s (acc.take i)) k) (mrk s (acc.take (i + 1))))) (fun q _ => many s p - (intOf q).toNat)
         case atStart =>
           refine ⟨0, by omega, rfl, (hb1.setCell (by simp) _).drew, ?_⟩
           show Gq _ _ _ _ _
           rw [marked_zero]
           exact ((HG.out.mark i (by omega) U).congr fun x _ => by rw [HU.out]; exact mrk_step hp x).drew
         case round =>
           clear hb1 HG hd1 hd0 hm hz
           obtain ⟨k, hk, rfl, hb1, HG⟩ := hrel
           have hd1 := (hb1.cell (p := ⟨g, i * 2 + 1, none⟩) hgl).trans hc1
           by_cases hkl : k < many s p
           · have hkT : k < T.size := by omega
             have hb := HTb.out k hkT
             obtain ⟨_, hr1, hr2⟩ := byte_range s 53 48 (arrow s p + 1) k hkl
             have hr3 : byteAt s (arrow s p + 1 + k) = s[arrow s p + 1 + k].toNat := byteAt_lt _
             obtain ⟨d, hd⟩ : ∃ d, T[k].toNat = d + 48 := ⟨T[k].toNat - 48, by omega⟩
             have hd6 : d < 6 := by omega
             have HD : Hid (byteAt s (arrow s p + 1 + k) = d + 48) := by show _ = _; rw [<- hb]; exact hd
             have he := HG.out.ce i d (by omega) hd6
             have hz := HG.out.fz (1 + i * 6 + d) (by omega)
             clear hr1 hr2 hr3 hb
             go_wp2_with fail
             go_region
             all_goals
               go_wp2_with fail
               go_roundw
               case rel =>
                 refine ⟨k + 1, by omega, by go_num, (hb1.setCell (by simp) _).drew, ?_⟩
                 show Gq _ _ _ _ _
                 rw [<- marked_succ s _ i _ k d HD.out]
                 exact (HG.out.edge i d (by omega) hd6).drew
               case measure => simp [intOf]; omega
           · have hkn : k = many s p := by omega
             have HN : Hid (k = many s p) := hkn
             clear hkn
             go_wp2_with fail
             go_roundw
             case rel =>
               refine ⟨i + 1, by omega, by go_num, hb1, ?_⟩
               have hg2 := HG.out
               rw [HN.out] at hg2
               have hm2 := mat_snoc s (acc.take i) p
               rw [List.length_take, Nat.min_eq_left (by omega)] at hm2
               rw [hm2, take_snoc hp] at hg2
               exact hg2
             case measure => simp [intOf]; omega
     · go_wp2_with fail
       go_ret
       refine ⟨Below.to hbel hb1, w1.heap.size, hbel.size, rfl, ?_⟩
       have hg2 := HG.out
       rw [List.take_of_length_le (by omega)] at hg2
       rw [<- HA.out]
       exact hg2
 · rw [hr0] at hr; exact absurd hr (by simp)
end Go.Proofs.YtcfbfdjmcabnkabGreat
namespace Go.Proofs.YtcfbfdjmcabnkabGreat
open Go.RowKit Fw
open Go.Deep (BT)
set_option linter.unusedVariables false
def flt (g f s : ByteArray) : Nat :=
 if 210 < g.size ∨ 30 < s.size then 1 else if (chk g).1 ≠ 0 then (chk g).1 else if fairOk f = false then 4 else (frm s).1
theorem fault_is (g f s : ByteArray) (w : World) (hf : f.size <= 9223372036854775807) :
   Calls Tryz.prog 30 #[.string g, .string f, .string s] w fun e w' => e = .returned (.int .i64 (flt g f s : Nat)) ∧ Below w.heap.size w w' := by
 by_cases hg : 210 < g.size
 · have HF : Hid (flt g f s = 1) := by show _ = _; rw [flt, if_pos (.inl hg)]
   have hd : decide ((210 : Int) < (g.size : Int)) = true := by simp; omega
   go_enter Tryz.func30, Tryz.ntmps30
   go_wp2_with fail
   go_ret
   exact ⟨by rw [HF.out]; rfl, Below.refl _ _⟩
 · have hd : decide ((210 : Int) < (g.size : Int)) = false := by simp; omega
   by_cases hs : 30 < s.size
   · have HF : Hid (flt g f s = 1) := by show _ = _; rw [flt, if_pos (.inr hs)]
     have hd2 : decide ((30 : Int) < (s.size : Int)) = true := by simp; omega
     go_enter Tryz.func30, Tryz.ntmps30
     go_wp2_with fail
     go_ret
     exact ⟨by rw [HF.out]; rfl, Below.refl _ _⟩
   · have hd2 : decide ((30 : Int) < (s.size : Int)) = false := by simp; omega
     have HF0 : Hid (flt g f s = if (chk g).1 ≠ 0 then (chk g).1 else if fairOk f = false then 4 else (frm s).1) := by show _ = _; rw [flt, if_neg (by omega)]
     have HC := refCheck_any g w (by omega)
     obtain ⟨c1, hc1⟩ : ∃ c1, c1 = (chk g).1 := ⟨_, rfl⟩
     obtain ⟨c2, hc2⟩ : ∃ c2, c2 = (chk g).2 := ⟨_, rfl⟩
     rw [<- hc1] at HF0 HC
     rw [<- hc2] at HC
     clear hc1 hc2
     by_cases h0 : c1 = 0
     · subst h0
       have HF1 : Hid (flt g f s = if fairOk f = false then 4 else (frm s).1) := by show _ = _; rw [HF0.out, if_neg (by simp)]
       cases hk : fairOk f with
       | false =>
         have HF : Hid (flt g f s = 4) := by show _ = _; rw [HF1.out, if_pos hk]
         have HI : ∀ w', Calls Tryz.prog 51 #[.string f] w' fun e w'' => e = .returned (.bool false) ∧ ∃ n, w'' = w'.drewN n := fun w' => by rw [<- hk]; exact isFair_is f w' hf
         clear hk HF0 HF1
         go_enter Tryz.func30, Tryz.ntmps30
         go_wp2_with (first
           | (go_at_call 8; refine HC.mono ?_; rintro e w1 ⟨rfl, hb1⟩)
           | (go_at_call 51; refine (HI _).mono ?_; rintro e w2 ⟨rfl, n, rfl⟩))
         go_ret
         exact ⟨by rw [HF.out]; rfl, below_drewN hb1 n⟩
       | true =>
         have HF : Hid (flt g f s = (frm s).1) := by show _ = _; rw [HF1.out, if_neg (by simp [hk])]
         have HI : ∀ w', Calls Tryz.prog 51 #[.string f] w' fun e w'' => e = .returned (.bool true) ∧ ∃ n, w'' = w'.drewN n := fun w' => by rw [<- hk]; exact isFair_is f w' hf
         clear hk HF0 HF1
         have HM := fun w' => refForm_any s w' (by omega)
         go_enter Tryz.func30, Tryz.ntmps30
         go_wp2_with (first
           | (go_at_call 8; refine HC.mono ?_; rintro e w1 ⟨rfl, hb1⟩)
           | (go_at_call 51; refine (HI _).mono ?_; rintro e w2 ⟨rfl, n, rfl⟩)
           | (go_at_call 11; refine (HM _).mono ?_; rintro e w3 ⟨rfl, m, rfl⟩))
         go_ret
         exact ⟨by rw [HF.out]; rfl, below_drewN hb1 (n + m)⟩
     · have HF : Hid (flt g f s = c1) := by show _ = _; rw [HF0.out, if_pos h0]
       have hn : ((c1 : Int) != 0) = true := by rw [bne_iff_ne]; omega
       clear HF0
       go_enter Tryz.func30, Tryz.ntmps30
       go_wp2_with (first
         | (go_at_call 8; refine HC.mono ?_; rintro e w1 ⟨rfl, hb1⟩))
       go_ret
       exact ⟨by rw [HF.out]; rfl, hb1⟩
theorem firstBad_none {s : ByteArray} {n : Nat} : ∀ (l : List Nat) (i : Nat), firstBad s n i l = none -> ∀ p ∈ l, astB s n p = false := by
 intro l
 induction l with
 | nil => intro i _ p hp; simp at hp
 | cons q r ih =>
   intro i h p hp
   unfold firstBad at h
   by_cases hq : astB s n q = true
   · rw [if_pos hq] at h; cases h
   · rw [if_neg hq] at h
     simp only [List.mem_cons] at hp
     rcases hp with rfl | hp
     · simpa using hq
     · exact ih _ h p hp
theorem chk_zero {s : ByteArray} (h : (chk s).1 = 0) : (run s 6 0).1 = true ∧ firstBad s (run s 6 0).2.2.length 0 (run s 6 0).2.2 = none := by
 unfold chk at h
 split at h
 · rename_i hr
   refine ⟨hr, ?_⟩
   split at h
   · simp at h
   · assumption
 · simp at h
theorem gph_ok {s : ByteArray} (h : (chk s).1 = 0) : (gphOf s).ok := by
 obtain ⟨_, hf⟩ := chk_zero h
 intro i j he
 show i < (run s 6 0).2.2.length ∧ j < (run s 6 0).2.2.length
 have he' : mat s (run s 6 0).2.2 i j = true := he
 unfold mat at he'
 split at he'
 · rename_i p hp
   obtain ⟨hlt, _⟩ := List.getElem?_eq_some_iff.1 hp
   refine ⟨hlt, ?_⟩
   have ha := firstBad_none _ _ hf p (List.mem_of_getElem? hp)
   simp only [List.any_eq_true, List.mem_range, beq_iff_eq] at he'
   obtain ⟨k, hk, hb⟩ := he'
   rcases Nat.lt_or_ge j (run s 6 0).2.2.length with h1 | h1
   · exact h1
   · rw [astB_yes hk (by omega)] at ha
     cases ha
 · cases he'
theorem gm_of {s : ByteArray} {w : World} {gb : Nat} (hs : s.size <= 210) (h : Gq w gb (run s 6 0).2.2.length (mat s (run s 6 0).2.2) (mrk s (run s 6 0).2.2)) : Gm w gb (gphOf s) (mrk s (run s 6 0).2.2) := by
 refine ⟨h.lt, (run_starts s 6 0 (by omega)).1, h.cn, h.ce, h.cm, fun i => mrk_size s _ i hs, fun i c _ => ?_⟩
 show (List.any _ _) = true ↔ _
 simp only [List.any_eq_true, beq_iff_eq]
def bitsU (h : Nat -> Bool) (k : Nat) : List UInt8 := (List.range k).map fun j => if h j = true then 49 else 48
theorem bitsU_succ (h : Nat -> Bool) (k : Nat) : bitsU h (k + 1) = bitsU h k ++ [if h k = true then 49 else 48] := by simp [bitsU, List.range_succ]
theorem bitsU_len (h : Nat -> Bool) (k : Nat) : (bitsU h k).length = k := by simp [bitsU]
def treeOf (s : ByteArray) : Fm := (pt (s.size + 1) (tl s 0)).2.2
def sol (g f s : ByteArray) : ByteArray × Nat :=
 if flt g f s = 0 then (bs (bitsU (holdsB (gphOf g) (fsOf f) (treeOf s)) (gphOf g).n), 0) else (ByteArray.empty, flt g f s)
theorem frm_zero {s : ByteArray} (h : (frm s).1 = 0) : s.data.toList = txt (treeOf s) ∧ good (treeOf s) := by
 unfold frm at h
 split at h
 · rename_i hh
   obtain ⟨h1, h2⟩ := hh
   have hg := pt_sound (s.size + 1) (tl s 0) h1
   rw [h2, List.append_nil] at hg
   rw [<- tl0]
   exact hg
 · simp at h
theorem flt_zero {g f s : ByteArray} (h : flt g f s = 0) : g.size <= 210 ∧ s.size <= 30 ∧ (chk g).1 = 0 ∧ fairOk f = true ∧ (frm s).1 = 0 := by
 unfold flt at h
 split at h
 · simp at h
 · rename_i h1
   split at h
   · rename_i h2; exact absurd h h2
   · rename_i h2
     split at h
     · simp at h
     · rename_i h3
       exact ⟨by omega, by omega, by simpa using h2, by simpa using h3, h⟩
theorem refSolve_any (g f s : ByteArray) (w : World) (hf : f.size <= 9223372036854775807) :
   Calls Tryz.prog 15 #[.string g, .string f, .string s] w fun e w' => e = .returned (.tuple #[.string (sol g f s).1, .int .i64 ((sol g f s).2 : Nat)]) ∧ Below w.heap.size w w' := by
 have HF := fault_is g f s w hf
 obtain ⟨c, hc⟩ : ∃ c, c = flt g f s := ⟨_, rfl⟩
 rw [<- hc] at HF
 by_cases h0 : c = 0
 · subst h0
   obtain ⟨hg, hs, hck, hfo, hfr⟩ := flt_zero hc.symm
   have HS : Hid (sol g f s = (bs (bitsU (holdsB (gphOf g) (fsOf f) (treeOf s)) (gphOf g).n), 0)) := by show _ = _; rw [sol, if_pos hc.symm]
   have HO := fun w' => of_is g w' hg (chk_zero hck).1
   have hfs : f.size <= 1000 := by
     simp only [fairOk, Bool.and_eq_true, decide_eq_true_eq] at hfo
     omega
   have HH := fun gb => holds_any gb (gphOf g) (gph_ok hck) (mrk g (run g 6 0).2.2) f hfs (treeOf s) (frm_zero hfr).2 s (frm_zero hfr).1 (by omega)
   have hn6 : (gphOf g).n <= 6 := (run_starts g 6 0 (by omega)).1
   have HGM := fun (w' : World) (gb : Nat) => gm_of (w := w') (gb := gb) hg
   obtain ⟨G, hG⟩ : ∃ G, G = gphOf g := ⟨_, rfl⟩
   obtain ⟨H, hH⟩ : ∃ H, H = holdsB G (fsOf f) (treeOf s) := ⟨_, rfl⟩
   rw [<- hG] at HS HH hn6 HGM
   rw [<- hH] at HS HH
   have HHH : Hid (∀ gb, HoldIs gb G (mrk g (run g 6 0).2.2) f s (upto G.n H)) := HH
   clear hG hH hc hck hfo hfr HH
   go_enter Tryz.func15, Tryz.ntmps15
   go_wp2_with (first
     | (go_at_call 30; refine HF.mono ?_; rintro e w1 ⟨rfl, hb1⟩)
     | (go_at_call 31; refine (HO _).mono ?_; rintro e w2 ⟨hb2, gb, hgb, rfl, hgq⟩
        have HG : Hid (Gm w2 gb G (mrk g (run g 6 0).2.2)) := HGM _ _ hgq
        clear hgq)
     | (go_at_call 32; refine (HHH.out gb _ HG).mono ?_; rintro e w3 ⟨rfl, hb3⟩)
     | (refine store6 (by rfl) _ _ (by rfl) w3.heap.size (fun _ => false) _ (by rfl) (by rfl) (arr_zero w3 75) ?_; intro w4 hb4 hz4 hk4 HR4))
   have hb24 : Below w2.heap.size w2 w4 := Below.to hb3 ((below1 w3 _).trans hb4)
   have hb04 : Below w.heap.size w w4 := Below.to (Below.to hb1 hb2) hb24
   have hn := (HG.out.below hb24 HG.out.lt).cn
   have HR : Hid (Arr w4 w3.heap.size 6 (upto G.n H)) := HR4
   clear HR4 hz4 hk4 hb4 hb3
   go_loop [11, 12] (fun v q => ∃ k : Nat, k <= G.n ∧ v = .string (bs (bitsU H k)) ∧ q = .int .i64 k) (fun _ q => G.n - (intOf q).toNat)
   case atStart => exact ⟨0, by omega, rfl, rfl⟩
   case round =>
     obtain ⟨k, hk, rfl, rfl⟩ := hrel
     by_cases hlt : k < G.n
     · have k0 : (0 : Int) <= (k : Int) := by omega
       have k1 : (k : Int) < 6 := by omega
       have cr := HR.out.c k (by omega)
       rw [upto_lt hlt] at cr
       have hl : (bs (bitsU H k)).size = k := by rw [bs_size, bitsU_len]
       have hl2 : (bs (bitsU H k)).size <= 6 := by omega
       have HB := bitsU_succ H k
       cases hx : H k with
       | true =>
         rw [hx] at cr HB
         have HB' : Hid (bs (bitsU H k) ++ (⟨#[49]⟩ : ByteArray) = bs (bitsU H (k + 1))) := by show _ = _; rw [HB, if_pos rfl]; exact bs_add _ [49]
         clear HB hx
         go_wp2_with fail
         go_round
         case rel => exact ⟨k + 1, by omega, by rw [HB'.out], by go_num⟩
         case measure => simp [intOf]; omega
       | false =>
         rw [hx] at cr HB
         have HB' : Hid (bs (bitsU H k) ++ (⟨#[48]⟩ : ByteArray) = bs (bitsU H (k + 1))) := by show _ = _; rw [HB, if_neg (by simp)]; exact bs_add _ [48]
         clear HB hx
         go_wp2_with fail
         go_round
         case rel => exact ⟨k + 1, by omega, by rw [HB'.out], by go_num⟩
         case measure => simp [intOf]; omega
     · have hkn : k = G.n := by omega
       have HK : Hid (k = G.n) := hkn
       clear hkn
       go_wp2_with fail
       go_ret2
       exact ⟨by rw [HS.out, <- HK.out]; rfl, hb04⟩
 · have HS : Hid (sol g f s = (ByteArray.empty, c)) := by show _ = _; rw [sol, <- hc, if_neg h0]
   have hn : ((c : Int) != 0) = true := by rw [bne_iff_ne]; omega
   clear hc
   go_enter Tryz.func15, Tryz.ntmps15
   go_wp2_with (first
     | (go_at_call 30; refine HF.mono ?_; rintro e w1 ⟨rfl, hb1⟩))
   go_ret2
   exact ⟨by rw [HS.out]; rfl, hb1⟩
end Go.Proofs.YtcfbfdjmcabnkabGreat
