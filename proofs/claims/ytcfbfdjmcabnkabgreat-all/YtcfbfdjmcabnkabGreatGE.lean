import Derived.Test.YtcfbfdjmcabnkabGreatGU2
import Derived.Test.YtcfbfdjmcabnkabGreatGQ
import Derived.Test.YtcfbfdjmcabnkabGreatG9
import Derived.Test.YtcfbfdjmcabnkabGreatG6
import Derived.Test.YtcfbfdjmcabnkabGreatG5
import Derived.Test.YtcfbfdjmcabnkabGreatG3
set_option maxRecDepth 100000
set_option maxHeartbeats 1000000
namespace Go.Proofs.YtcfbfdjmcabnkabGreat
open Go.RowKit Fw
open Go.Deep (BT)
set_option linter.unusedVariables false
theorem states_ok (g : ByteArray) (w : World) (hg : g.size ≤ 210) (hr : (run g 6 0).1 = true) :
   Calls Tryz.prog 21 #[.string g] w fun e w' => ∃ a cap, e = .returned (.tuple #[.slice a (gphOf g).n cap, .int .i64 (-1)]) ∧ Below w.heap.size w w' := by
 refine (states_any g w hg).mono ?_
 rintro e w1 ⟨hbel, ⟨_, v, rfl, hown⟩ | ⟨h, _⟩⟩
 · rcases hown.2 with ⟨h1, h2⟩ | ⟨g, cap, cur, h1, _⟩
   · exact ⟨none, 0, by rw [h1]; show _ = Ending.returned (.tuple #[.slice none (run _ 6 0).2.2.length 0, _]); rw [h2], hbel⟩
   · exact ⟨_, _, by rw [h1]; rfl, hbel⟩
 · rw [hr] at h; cases h
theorem upTo_lit (s : ByteArray) (k : Nat) (w : World) (hs : s.size ≤ 60) (hk : k = findc 65 (tl s 0)) :
   Calls Tryz.prog 59 #[.string s, .int .i64 0, .int .u8 65] w fun e w' => e = .returned (.int .i64 (k : Int)) ∧ w' = w := by
 rw [hk]
 exact upTo_0 s 65 w (by omega)
theorem late_err (g f s : ByteArray) (n : Int) (w : World) (hf : f.size ≤ 9223372036854775807) (c : Nat) (hc : flt g f s = c) (h0 : c ≠ 0) :
   Calls Tryz.prog 35 #[.string g, .string f, .string s, .int .i64 n] w fun e w' => e = .returned (.int .i64 (c : Int)) ∧ Below w.heap.size w w' := by
 have HF := fun W => fault_is g f s W hf
 rw [hc] at HF
 have hn : ((c : Int) != 0) = true := by rw [bne_iff_ne]; omega
 clear hc
 go_enter Tryz.func35, Tryz.ntmps35
 go_wp2_with fail
 refine (HF _).mono ?_
 rintro e w1 ⟨rfl, hb1⟩
 go_wp2_with fail
 go_ret
 exact ⟨rfl, hb1⟩
theorem late_arg (g f s : ByteArray) (n : Int) (w : World) (hf : f.size ≤ 9223372036854775807) (hc : flt g f s = 0) (hn : n < 0 ∨ ((gphOf g).n : Int) ≤ n) :
   Calls Tryz.prog 35 #[.string g, .string f, .string s, .int .i64 n] w fun e w' => e = .returned (.int .i64 7) ∧ Below w.heap.size w w' := by
 have HF := fun W => fault_is g f s W hf
 rw [hc] at HF
 obtain ⟨hg, hs, hck, hfo, hfr⟩ := flt_zero hc
 have HS := fun W => states_ok g W hg (chk_zero hck).1
 obtain ⟨N, hN⟩ : ∃ N, N = (gphOf g).n := ⟨_, rfl⟩
 rw [<- hN] at HS hn
 clear hc hN hck hfo hfr
 by_cases h1 : n < 0
 · have h1' : decide (n < 0) = true := by simpa using h1
   clear hn
   go_enter Tryz.func35, Tryz.ntmps35
   go_wp2_with fail
   refine (HF _).mono ?_
   rintro e w1 ⟨rfl, hb1⟩
   go_wp2_with fail
   refine (HS _).mono ?_
   rintro e w2 ⟨a, cap, rfl, hb2⟩
   have HB : Hid (Below w.heap.size w w2) := Below.to hb1 hb2
   clear hb1 hb2
   go_wp2_with fail
   go_ret
   exact ⟨rfl, HB.out⟩
 · have h2 : (N : Int) <= n := by omega
   have h1' : decide (n < 0) = false := by simpa using h1
   have h2' : decide ((N : Int) <= n) = true := by simpa using h2
   clear hn
   go_enter Tryz.func35, Tryz.ntmps35
   go_wp2_with fail
   refine (HF _).mono ?_
   rintro e w1 ⟨rfl, hb1⟩
   go_wp2_with fail
   refine (HS _).mono ?_
   rintro e w2 ⟨a, cap, rfl, hb2⟩
   have HB : Hid (Below w.heap.size w w2) := Below.to hb1 hb2
   clear hb1 hb2
   go_wp2_with fail
   go_ret
   exact ⟨rfl, HB.out⟩
theorem late_rest (g f s : ByteArray) (n : Int) (w : World) (hf : f.size ≤ 9223372036854775807) (hc : flt g f s = 0) (hn1 : ¬ n < 0) (hn2 : ¬ ((gphOf g).n : Int) ≤ n) (b : Bool) (hb : anyT (push (treeOf s) false) = b) :
   Calls Tryz.prog 35 #[.string g, .string f, .string s, .int .i64 n] w fun e w' => e = .returned (.int .i64 (if b = true then 8 else 0)) ∧ Below w.heap.size w w' := by
 have HF := fun W => fault_is g f s W hf
 rw [hc] at HF
 obtain ⟨hg, hs, hck, hfo, hfr⟩ := flt_zero hc
 have HS := fun W => states_ok g W hg (chk_zero hck).1
 obtain ⟨ht, hgd⟩ := frm_zero hfr
 have HP := fun W => pushed_any (treeOf s) hgd false s W ht (by omega)
 have hpl := push_len (treeOf s) hgd false
 rw [<- size_of ht] at hpl
 obtain ⟨N, hN⟩ : ∃ N, N = (gphOf g).n := ⟨_, rfl⟩
 obtain ⟨P, hP⟩ : ∃ P, P = bs (push (treeOf s) false) := ⟨_, rfl⟩
 obtain ⟨k, hk⟩ : ∃ k, k = findc 65 (tl P 0) := ⟨_, rfl⟩
 have hPs : P.size = (push (treeOf s) false).length := by rw [hP, bs_size]
 have hPl : P.data.toList = push (treeOf s) false := by rw [hP]; rfl
 have HU := fun W => upTo_lit P k W (by omega) hk
 have hb2 : decide ((k : Int) < (P.size : Int)) = b := by
   have := findc_lt 65 (tl P 0)
   rw [<- hk, tl0, hPl, <- hPs] at this
   rw [<- hb, Bool.eq_iff_iff, anyT_iff, decide_eq_true_eq]
   unfold txtA
   rw [<- this]
   omega
 rw [<- hN] at HS hn2
 rw [<- hP] at HP
 clear hc hN hck hfo hfr hb hk hP hPl ht hgd hpl
 have h1' : decide (n < 0) = false := by simpa using hn1
 have h2' : decide ((N : Int) <= n) = false := by simpa using hn2
 cases b with
 | true =>
   have h3 : (k : Int) < (P.size : Int) := by simpa using hb2
   go_enter Tryz.func35, Tryz.ntmps35
   go_wp2_with fail
   refine (HF _).mono ?_
   rintro e w1 ⟨rfl, hb1⟩
   go_wp2_with fail
   refine (HS _).mono ?_
   rintro e w2 ⟨a, cap, rfl, hb2⟩
   have HB : Hid (Below w.heap.size w w2) := Below.to hb1 hb2
   clear hb1 hb2
   go_wp2_with fail
   refine (HP _).mono ?_
   rintro e w3 ⟨rfl, hb3⟩
   have HB3 : Hid (Below w.heap.size w w3) := Below.to HB.out hb3
   clear hb3
   go_wp2_with fail
   refine (HU _).mono ?_
   rintro e w4 ⟨rfl, rfl⟩
   go_wp2_with fail
   go_ret
   exact ⟨rfl, HB3.out⟩
 | false =>
   have h3 : ¬ (k : Int) < (P.size : Int) := by simpa using hb2
   go_enter Tryz.func35, Tryz.ntmps35
   go_wp2_with fail
   refine (HF _).mono ?_
   rintro e w1 ⟨rfl, hb1⟩
   go_wp2_with fail
   refine (HS _).mono ?_
   rintro e w2 ⟨a, cap, rfl, hb2⟩
   have HB : Hid (Below w.heap.size w w2) := Below.to hb1 hb2
   clear hb1 hb2
   go_wp2_with fail
   refine (HP _).mono ?_
   rintro e w3 ⟨rfl, hb3⟩
   have HB3 : Hid (Below w.heap.size w w3) := Below.to HB.out hb3
   clear hb3
   go_wp2_with fail
   refine (HU _).mono ?_
   rintro e w4 ⟨rfl, rfl⟩
   go_wp2_with fail
   go_ret
   exact ⟨rfl, HB3.out⟩
theorem late_is (g f s : ByteArray) (n : Int) (w : World) (hf : f.size ≤ 9223372036854775807) :
   Calls Tryz.prog 35 #[.string g, .string f, .string s, .int .i64 n] w fun e w' => e = .returned (.int .i64 (lat g f s n : Nat)) ∧ Below w.heap.size w w' := by
 by_cases h0 : flt g f s = 0
 · by_cases hn : n < 0 ∨ ((gphOf g).n : Int) <= n
   · have e : lat g f s n = 7 := by unfold lat; rw [if_neg (by omega), if_pos hn]
     rw [e]
     exact late_arg g f s n w hf h0 hn
   · have e : lat g f s n = if anyT (push (treeOf s) false) = true then 8 else 0 := by unfold lat; rw [if_neg (by omega), if_neg hn]
     have := late_rest g f s n w hf h0 (by omega) (by omega) _ rfl
     rw [e]
     cases h : anyT (push (treeOf s) false) with
     | true => rw [h] at this; exact this
     | false => rw [h] at this; exact this
 · have e : lat g f s n = flt g f s := by unfold lat; rw [if_pos h0]
   rw [e]
   exact late_err g f s n w hf _ rfl h0
theorem refReplay_long (g f s : ByteArray) (n : Int) (c : ByteArray) (w : World) (hc : ¬ c.size ≤ 4000000) :
   Calls Tryz.prog 17 #[.string g, .string f, .string s, .int .i64 n, .string c] w fun e w' => e = .returned (.tuple #[.bool false, .int .i64 1]) ∧ Below w.heap.size w w' := by
 have hcc : (4000000 : Int) < (c.size : Int) := by omega
 go_enter Tryz.func17, Tryz.ntmps17
 go_wp2_with fail
 go_ret2
 exact ⟨rfl, Below.refl _ _⟩
theorem refReplay_err (g f s : ByteArray) (n : Int) (c : ByteArray) (w : World) (hf : f.size ≤ 9223372036854775807) (hc : c.size ≤ 4000000) (E : Nat) (hE : lat g f s n = E) (h0 : E ≠ 0) :
   Calls Tryz.prog 17 #[.string g, .string f, .string s, .int .i64 n, .string c] w fun e w' => e = .returned (.tuple #[.bool false, .int .i64 (E : Int)]) ∧ Below w.heap.size w w' := by
 have HL := fun W => late_is g f s n W hf
 rw [hE] at HL
 have hcc : ¬ (4000000 : Int) < (c.size : Int) := by omega
 have hn : ((E : Int) != 0) = true := by rw [bne_iff_ne]; omega
 clear hE
 go_enter Tryz.func17, Tryz.ntmps17
 go_wp2_with fail
 refine (HL _).mono ?_
 rintro e w1 ⟨rfl, hb1⟩
 go_wp2_with fail
 go_ret2
 exact ⟨rfl, hb1⟩
theorem lat_zero {g f s : ByteArray} {n : Int} (h : lat g f s n = 0) : flt g f s = 0 ∧ ¬ n < 0 ∧ ¬ ((gphOf g).n : Int) <= n ∧ anyT (push (treeOf s) false) = false := by
 unfold lat at h
 split at h
 · rename_i h1; exact absurd h h1
 · rename_i h1
   split at h
   · omega
   · rename_i h2
     split at h
     · omega
     · rename_i h3
       exact ⟨by omega, by omega, by omega, by simpa using h3⟩
theorem refReplay_ok (g f s : ByteArray) (st : Nat) (c : ByteArray) (w : World) (hf : f.size ≤ 9223372036854775807) (hc : c.size ≤ 4000000) (hE : lat g f s (st : Int) = 0) (b : Bool) (hb : decide (rep (gphOf g) (fsOf f) c (pushT (treeOf s) false) st 0 = some c.size) = b) :
   Calls Tryz.prog 17 #[.string g, .string f, .string s, .int .i64 (st : Int), .string c] w fun e w' => e = .returned (.tuple #[.bool b, .int .i64 0]) ∧ Below w.heap.size w w' := by
 have HL := fun W => late_is g f s (st : Int) W hf
 rw [hE] at HL
 obtain ⟨h0, hn1, hn2, hA⟩ := lat_zero hE
 obtain ⟨hg, hs, hck, hfo, hfr⟩ := flt_zero h0
 obtain ⟨ht, hgd⟩ := frm_zero hfr
 have HO := fun w' => of_is g w' hg (chk_zero hck).1
 have HGM := fun (w' : World) (gb : Nat) => gm_of (w := w') (gb := gb) hg
 have HP := fun W => pushed_any (treeOf s) hgd false s W ht (by omega)
 have hpl := push_len (treeOf s) hgd false
 rw [<- size_of ht] at hpl
 have hfs : f.size <= 1000 := by
   simp only [fairOk, Bool.and_eq_true, decide_eq_true_eq] at hfo
   omega
 obtain ⟨e1, e2, -⟩ := pushT_is (treeOf s) hgd false
 have hshw : shw (pushT (treeOf s) false) := push_shw (treeOf s) hgd false fun x hx he => by
   have : anyT (push (treeOf s) false) = true := by unfold anyT; rw [List.any_eq_true]; exact ⟨x, hx, by simpa using he⟩
   rw [hA] at this; cases this
 obtain ⟨P, hP⟩ : ∃ P, P = bs (push (treeOf s) false) := ⟨_, rfl⟩
 have hPs : P.size = (push (treeOf s) false).length := by rw [hP, bs_size]
 have hPl : P.data.toList = txt (pushT (treeOf s) false) := by rw [e1, hP]; rfl
 have HSH := fun gb => shows_any gb (gphOf g) (mrk g (run g 6 0).2.2) f c hc hfs _ e2 hshw P hPl (by omega)
 rw [<- hP] at HP
 obtain ⟨K, hK⟩ : ∃ K, K = mrk g (run g 6 0).2.2 := ⟨_, rfl⟩
 obtain ⟨R, hR⟩ : ∃ R, R = opI (rep (gphOf g) (fsOf f) c (pushT (treeOf s) false) st 0) := ⟨_, rfl⟩
 have hRb : ((R : Int) == (c.size : Int)) = b := by
   rw [hR, <- hb]
   cases h : rep (gphOf g) (fsOf f) c (pushT (treeOf s) false) st 0 with
   | none => simp [opI]
   | some q => simp [opI]; rw [Bool.eq_iff_iff]; simp; omega
 have HSX : ∀ gb W, Hid (Gm W gb (gphOf g) (mrk g (run g 6 0).2.2)) -> Calls Tryz.prog 36 #[.agg #[.pointer (some ⟨gb, 0, none⟩), .string f, .string c], .string P, .int .i64 (st : Int), .int .i64 0] W fun e w' => e = .returned (.int .i64 R) ∧ Below W.heap.size W w' := by
   intro gb W h
   have := HSH gb st 0 W (by omega) (by omega) h
   rw [<- hR] at this
   exact this
 obtain ⟨G, hG⟩ : ∃ G, G = gphOf g := ⟨_, rfl⟩
 rw [<- hG, <- hK] at HSX HGM
 rw [<- hK] at HO
 have HGM2 : Hid _ := HGM
 have HO2 : Hid _ := HO
 have hcc : ¬ (4000000 : Int) < (c.size : Int) := by omega
 clear hE h0 hn1 hn2 hA hck hfo hfr ht hgd hpl e1 e2 hshw hP hPs hPl HSH hK hR hb hG HGM HO
 go_enter Tryz.func17, Tryz.ntmps17
 go_wp2_with fail
 refine (HL _).mono ?_
 rintro e w1 ⟨rfl, hb1⟩
 have HB1 : Hid (Below w.heap.size w w1) := hb1
 clear hb1 HL
 go_wp2_with fail
 refine (HO2.out _).mono ?_
 rintro e w2 ⟨hb2, gb, hgb, rfl, hgq⟩
 have HG : Hid (Gm w2 gb G K) := HGM2.out _ _ hgq
 have HB2 : Hid (Below w.heap.size w w2) := Below.to HB1.out hb2
 clear hgq hb2 hgb HGM2 HO2
 go_wp2_with fail
 generalize hW : w2.alloc (Obj.cells #[Value.pointer (some ⟨gb, 0, none⟩), Value.string f, Value.string c] 86) = W0
 obtain ⟨hWs, hBW⟩ := trial_box gb G K f c w2 W0 HG.out hW
 have HBW : Hid _ := hBW
 obtain ⟨a2, b2, c2, -, -⟩ := HBW.out _ (Below.refl _ _)
 clear hW hBW
 go_region_held3 (fun w' => w'.cell? ⟨w2.heap.size, 0, none⟩ = some (.pointer (some ⟨gb, 0, none⟩)) ∧ w'.cell? ⟨w2.heap.size, 1, none⟩ = some (.string f) ∧ w'.cell? ⟨w2.heap.size, 2, none⟩ = some (.string c)) (first
     | exact ⟨a2, b2, c2⟩
     | exact ⟨a4, b4, c4⟩
     | exact ⟨a5, b5, c5⟩) (first
   | (go_at_call 27; refine (HP _).mono ?_; rintro e w4 ⟨rfl, hb4⟩
      have HB4 : Hid (Below (w2.heap.size + 1) W0 w4) := (Below.refl _ _).drew.trans (hb4.mono (by simp; omega))
      obtain ⟨a4, b4, c4, hG4, -⟩ := HBW.out _ HB4.out
      have HG4 : Hid (Gm w4 gb G K) := hG4
      clear hb4 hG4)
   | (go_at_call 36; refine (HSX gb _ HG4).mono ?_; rintro e w5 ⟨rfl, hb5⟩
      have HB5 : Hid (Below (w2.heap.size + 1) W0 w5) := HB4.out.trans (hb5.mono (by have := HB4.out.size; omega))
      obtain ⟨a5, b5, c5, -, -⟩ := HBW.out _ HB5.out
      clear hb5))
 all_goals
   go_wp2_with fail
   go_ret2
   exact ⟨rfl, Below.to HB2.out (HBW.out _ HB5.out).2.2.2.2⟩
theorem refReplay_any (g f s : ByteArray) (n : Int) (c : ByteArray) (w : World) (hf : f.size ≤ 9223372036854775807) :
   Calls Tryz.prog 17 #[.string g, .string f, .string s, .int .i64 n, .string c] w fun e w' => e = .returned (.tuple #[.bool (rpl g f s n c).1, .int .i64 ((rpl g f s n c).2 : Nat)]) ∧ Below w.heap.size w w' := by
 by_cases hc : c.size <= 4000000
 · by_cases h0 : lat g f s n = 0
   · obtain ⟨-, hn1, hn2, -⟩ := lat_zero h0
     obtain ⟨st, rfl⟩ : ∃ st : Nat, n = (st : Int) := ⟨n.toNat, by omega⟩
     have e : rpl g f s (st : Int) c = (decide (rep (gphOf g) (fsOf f) c (pushT (treeOf s) false) st 0 = some c.size), 0) := by
       unfold rpl; rw [if_neg (by omega), h0]; rfl
     rw [e]
     exact refReplay_ok g f s st c w hf hc h0 _ rfl
   · have e : rpl g f s n c = (false, lat g f s n) := by unfold rpl; rw [if_neg (by omega), if_pos h0]
     rw [e]
     exact refReplay_err g f s n c w hf hc _ rfl h0
 · have e : rpl g f s n c = (false, 1) := by unfold rpl; rw [if_pos hc]
   rw [e]
   exact refReplay_long g f s n c w hc
theorem plays_replay (n : Int) (g f s c : ByteArray) (w : World) (hf : f.size ≤ 9223372036854775807) :
   Calls Tryz.prog 6 #[.agg #[.int .i64 5, .int .i64 n, .string g, .string f, .string s, .string c]] w fun e w' => e = .returned (.bool true) ∧ Below w.heap.size w w' := by
 have HP := fun W => replay_all g f s n c W hf
 have HR := fun W => refReplay_any g f s n c W hf
 obtain ⟨X, hX⟩ : ∃ X, X = (rpl g f s n c).1 := ⟨_, rfl⟩
 obtain ⟨E, hE⟩ : ∃ E, E = (rpl g f s n c).2 := ⟨_, rfl⟩
 rw [<- hX, <- hE] at HP HR
 clear hX hE
 go_enter Tryz.func6, Tryz.ntmps6
 go_wp2_with fail
 refine (HP _).mono ?_
 rintro e w1 ⟨rfl, hb1⟩
 have hsz := hb1.size
 have hn : w1.cell? ⟨w.heap.size, 1, none⟩ = some (.int .i64 n) := by rw [hb1.cell (p := ⟨w.heap.size, 1, none⟩) (by simp)]; simp
 have hg : w1.cell? ⟨w.heap.size, 2, none⟩ = some (.string g) := by rw [hb1.cell (p := ⟨w.heap.size, 2, none⟩) (by simp)]; simp
 have hf : w1.cell? ⟨w.heap.size, 3, none⟩ = some (.string f) := by rw [hb1.cell (p := ⟨w.heap.size, 3, none⟩) (by simp)]; simp
 have hs : w1.cell? ⟨w.heap.size, 4, none⟩ = some (.string s) := by rw [hb1.cell (p := ⟨w.heap.size, 4, none⟩) (by simp)]; simp
 have hc : w1.cell? ⟨w.heap.size, 5, none⟩ = some (.string c) := by rw [hb1.cell (p := ⟨w.heap.size, 5, none⟩) (by simp)]; simp
 go_wp2_with fail
 refine (HR _).mono ?_
 rintro e w2 ⟨rfl, hb2⟩
 have h2 : ((E : Int) == (E : Int)) = true := by simp
 have HB : Hid (Below w.heap.size w w2) := (((Below.refl _ _).alloc (Nat.le_refl _) _).trans (hb1.mono (by simp))).trans (hb2.mono (by simp at hsz; omega))
 clear hb1 hb2 hn hg hf hs hc
 cases X with
 | true =>
   go_wp2_with (go_at_call 9; refine (num_anyY _ _).mono ?_; rintro e w3 ⟨rfl, rfl⟩)
   go_ret
   exact ⟨by simp, HB.out⟩
 | false =>
   go_wp2_with (go_at_call 9; refine (num_anyY _ _).mono ?_; rintro e w3 ⟨rfl, rfl⟩)
   go_ret
   exact ⟨by simp, HB.out⟩
theorem plays5 : PlaysAll 5 5 := by
 intro k n g f s c w h1 h2 _ _ hf _ _
 obtain rfl : k = 5 := by omega
 exact plays_replay n g f s c w (by simpa [maxLen] using hf)
end Go.Proofs.YtcfbfdjmcabnkabGreat
