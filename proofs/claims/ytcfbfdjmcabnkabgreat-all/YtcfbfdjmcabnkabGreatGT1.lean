import Derived.Deep.AppendLies
import Derived.Deep.RegionHeld3
import Derived.Test.YtcfbfdjmcabnkabGreatG9
import Derived.Test.YtcfbfdjmcabnkabGreatGA
set_option maxRecDepth 100000
set_option maxHeartbeats 2000000
namespace Go.Proofs.YtcfbfdjmcabnkabGreat
open Go.RowKit Fw
open Go.Deep (BT)
set_option linter.unusedVariables false
theorem is_R (G : Value) (f s : ByteArray) (p c : Nat) (w : World) (hs : s.size <= 4000000) (hp : p <= 4000001) (hc : c < 256) :
   Calls Tryz.prog 62 #[.agg #[G, .string f, .string s], .int .i64 (p : Int), .int .u8 (c : Int)] w fun e w' => e = .returned (.bool (isAt s p c)) ∧ Below w.heap.size w w' := by
 unfold isAt
 by_cases hlt : p < s.size
 · by_cases he : s[p].toNat = c
   · have he' : ((s[p].toNat : Int) == (c : Int)) = true := by rw [beq_iff_eq]; omega
     go_enter Tryz.func62, Tryz.ntmps62
     go_wp2_with fail
     go_ret
     exact ⟨by simp [hlt, he], (Below.refl _ _).alloc (Nat.le_refl _) _⟩
   · have he' : ((s[p].toNat : Int) == (c : Int)) = false := by rw [beq_eq_false_iff_ne]; omega
     go_enter Tryz.func62, Tryz.ntmps62
     go_wp2_with fail
     go_ret
     exact ⟨by simp [hlt, he], (Below.refl _ _).alloc (Nat.le_refl _) _⟩
 · go_enter Tryz.func62, Tryz.ntmps62
   go_wp2_with fail
   go_ret
   exact ⟨by simp [hlt], (Below.refl _ _).alloc (Nat.le_refl _) _⟩
structure Lr (w : World) (gl : Nat) (ls : List Nat) : Prop where
 lt : gl < w.heap.size
 c : ∀ k, k < ls.length -> w.cell? ⟨gl, k, none⟩ = some (.int .i64 ((ls.getD k 0 : Nat) : Int))
theorem Lr.below {w w' : World} {gl k : Nat} {ls : List Nat} (h : Lr w gl ls) (hb : Below k w w') (hk : gl < k) : Lr w' gl ls := ⟨Nat.lt_of_lt_of_le h.lt hb.size, fun j hj => (hb.cell (p := ⟨gl, j, none⟩) hk).trans (h.c j hj)⟩
theorem at_R (gl cap fr k : Nat) (ls : List Nat) (w : World) (hl : ls.length <= 40) (hf : fr < ls.length) (hk : k <= ls.length) (HL : Hid (Lr w gl ls)) :
   Calls Tryz.prog 91 #[.agg #[.slice (some ⟨gl, 0, none⟩) ls.length cap, .int .i64 (fr : Int)], .int .i64 (k : Int)] w fun e w' => e = .returned (.int .i64 ((ls.getD (if k = ls.length then fr else k) 0 : Nat) : Int)) ∧ Below w.heap.size w w' := by
 have hlt := HL.out.lt
 obtain ⟨r, hr⟩ : ∃ r, r = ls.getD (if k = ls.length then fr else k) 0 := ⟨_, rfl⟩
 have HRR : Hid (r = ls.getD (if k = ls.length then fr else k) 0) := hr
 rw [<- hr]
 clear hr
 go_enter Tryz.func91, Tryz.ntmps91
 go_wp2_with fail
 go_loop [1] (fun q => ∃ j : Nat, q = .int .i64 j ∧ ((j = k) ∨ (k = ls.length ∧ j = fr))) (fun q => (intOf q).toNat)
 case atStart => exact ⟨k, rfl, .inl rfl⟩
 case round =>
   obtain ⟨j, rfl, hj⟩ := hrel
   by_cases hjl : j < ls.length
   · have hj2 : ¬ (ls.length : Int) <= (j : Int) := by omega
     have hj3 : (j : Int) < (ls.length : Int) := by omega
     have hj0 : (0 : Int) <= (j : Int) := by omega
     have cj := HL.out.c j hjl
     have HJ : Hid (ls.getD j 0 = r) := by
       show _ = _
       rw [HRR.out]
       rcases hj with rfl | ⟨h1, rfl⟩
       · rw [if_neg (by omega)]
       · rw [if_pos h1]
     rw [HJ.out] at cj
     clear hj
     go_wp2_with fail
     go_ret
     exact ⟨rfl, (Below.refl _ _).alloc (Nat.le_refl _) _⟩
   · obtain ⟨rfl, rfl⟩ : j = k ∧ k = ls.length := by omega
     have hj2 : (ls.length : Int) <= (ls.length : Int) := by omega
     have hw : IntKind.i64.wrap ((ls.length : Int) - ((ls.length : Int) - (fr : Int))) = (fr : Int) := by rw [show (ls.length : Int) - ((ls.length : Int) - (fr : Int)) = (fr : Int) from by omega]; exact wrap_small _ (by omega) (by omega)
     clear hj
     go_wp2_with fail
     go_round
     case rel => exact ⟨fr, by go_num, by simp⟩
     case measure => simp [intOf]; omega
theorem Tryz.info3r : (Tryz.prog.info? 3).map (fun i => (i.zero, i.size, i.bytes)) = some (some (.int .i64 0), 1, 8) := by kernel_rfl
def LrOut (s : ByteArray) (p : Nat) (w : World) (e : Ending) (w' : World) : Prop := Below w.heap.size w w' ∧
 ((¬ LasR s p ∧ ∃ (a : Option Addr) (l c : Nat) (x y : Int), e = .returned (.tuple #[.agg #[.slice a l c, .int .i64 x], .int .i64 y, .bool false])) ∨
  (LasR s p ∧ ∃ gl cap, e = .returned (.tuple #[.agg #[.slice (some ⟨gl, 0, none⟩) (col s (opn s p) (p + 1) (sht s p - p - 1)).length cap, .int .i64 ((opn s p - p - 1 : Nat) : Int)], .int .i64 ((sht s p + 2 : Nat) : Int), .bool true]) ∧ Lr w' gl (col s (opn s p) (p + 1) (sht s p - p - 1))))
theorem las_no91 (s : ByteArray) (p : Nat) (w : World) (hs : s.size <= 4000000) (hp : p <= s.size) (hA : isAt s p 91 = false) :
   Calls Tryz.prog 89 #[.string s, .int .i64 (p : Int)] w fun e w' => LrOut s p w e w' := by
 have HN : Hid (¬ LasR s p) := fun h => by rw [h.1] at hA; cases hA
 by_cases hlt : p < s.size
 · have hb : ((s[p].toNat : Int) != 91) = true := by
     rw [bne_iff_ne]
     intro h
     rw [isAt_yes hlt (by omega)] at hA
     cases hA
   have hlt2 : ¬ (s.size : Int) <= (p : Int) := by omega
   clear hA
   go_enter Tryz.func89, Tryz.ntmps89
   go_wp2_with fail
   exact bodyPost_ret (v := .tuple #[.agg #[.slice none 0 0, .int .i64 0], .int .i64 (p : Int), .bool false]) (by simp [results, Tryz.results89, go_sem]) rfl ⟨below2S w _ _, .inl ⟨HN.out, _, _, _, _, _, rfl⟩⟩
 · have hlt2 : (s.size : Int) <= (p : Int) := by omega
   clear hA
   go_enter Tryz.func89, Tryz.ntmps89
   go_wp2_with fail
   exact bodyPost_ret (v := .tuple #[.agg #[.slice none 0 0, .int .i64 0], .int .i64 (p : Int), .bool false]) (by simp [results, Tryz.results89, go_sem]) rfl ⟨below2S w _ _, .inl ⟨HN.out, _, _, _, _, _, rfl⟩⟩
def BrR (s : ByteArray) (p : Nat) : Prop := isAt s (sht s p + 1) 93 = true ∧ opn s p <= sht s p ∧ sht s p <= p + 42 ∧ opn s p + 2 <= sht s p
theorem las_badb (s : ByteArray) (p : Nat) (w : World) (hs : s.size <= 4000000) (hp : p <= s.size) (hA : isAt s p 91 = true) (hbr : ¬ BrR s p) :
   Calls Tryz.prog 89 #[.string s, .int .i64 (p : Int)] w fun e w' => LrOut s p w e w' := by
 have hlt := isAt_lt hA
 have HBR : Hid (¬ BrR s p) := hbr
 clear hbr
 have HA : Hid (isAt s p 91 = true) := hA
 have hb : ((s[p].toNat : Int) != 91) = false := by
   have := (isAt_iff.1 hA).2
   rw [byteR hlt] at this
   simp [this]
 have hlt2 : ¬ (s.size : Int) <= (p : Int) := by omega
 have ho : opn s p <= s.size := by unfold opn; have := findc_le 40 (tl s p); rw [tl_length] at this; omega
 have hsh : sht s p <= s.size := by unfold sht; have := findc_le 41 (tl s p); rw [tl_length] at this; omega
 have hop : p <= opn s p := Nat.le_add_right _ _
 have hsp : p <= sht s p := Nat.le_add_right _ _
 have HU1 := fun W => upTo_is s p 40 W (by omega) hp
 have HU2 := fun W => upTo_is s p 41 W (by omega) hp
 obtain ⟨O, hO⟩ : ∃ O, O = opn s p := ⟨_, rfl⟩
 obtain ⟨S, hS⟩ : ∃ S, S = sht s p := ⟨_, rfl⟩
 have HO : Hid (O = opn s p) := hO
 have HS : Hid (S = sht s p) := hS
 rw [show p + findc 40 (tl s p) = O from hO.symm] at HU1
 rw [show p + findc 41 (tl s p) = S from hS.symm] at HU2
 rw [<- hO] at ho hop
 rw [<- hS] at hsh hsp
 clear hO hS hA
 go_enter Tryz.func89, Tryz.ntmps89
 go_wp2_with fail
 refine (HU1 _).mono ?_
 rintro e w1 ⟨rfl, rfl⟩
 go_wp2_with fail
 refine (HU2 _).mono ?_
 rintro e w1 ⟨rfl, rfl⟩
 by_cases h1 : S + 1 < s.size
 case neg =>
   have HN : Hid (¬ LasR s p) := fun h => by have := isAt_lt h.2.1; rw [<- HS.out] at this; omega
   have q1 : (s.size : Int) <= (S : Int) + 1 := by omega
   go_wp2_with fail
   exact bodyPost_ret (v := .tuple #[.agg #[.slice none 0 0, .int .i64 0], .int .i64 (p : Int), .bool false]) (by simp [results, Tryz.results89, go_sem]) rfl ⟨below2S w _ _, .inl ⟨HN.out, _, _, _, _, _, rfl⟩⟩
 have q1 : ¬ (s.size : Int) <= (S : Int) + 1 := by omega
 have q1' : (S : Int) + 1 < (s.size : Int) := by omega
 by_cases h2 : s[S + 1].toNat = 93
 case neg =>
   have HN : Hid (¬ LasR s p) := fun h => by
     have := (isAt_iff.1 h.2.1).2
     rw [<- HS.out, byteR h1] at this
     exact h2 this
   have q2 : ((s[S + 1].toNat : Int) != 93) = true := by rw [bne_iff_ne]; omega
   go_wp2_with fail
   exact bodyPost_ret (v := .tuple #[.agg #[.slice none 0 0, .int .i64 0], .int .i64 (p : Int), .bool false]) (by simp [results, Tryz.results89, go_sem]) rfl ⟨below2S w _ _, .inl ⟨HN.out, _, _, _, _, _, rfl⟩⟩
 have q2 : ((s[S + 1].toNat : Int) != 93) = false := by simp [h2]
 by_cases h3 : O <= S
 case neg =>
   have HN : Hid (¬ LasR s p) := fun h => by have := h.2.2.1; rw [<- HS.out, <- HO.out] at this; omega
   have q3 : (S : Int) < (O : Int) := by omega
   clear h2
   go_wp2_with fail
   exact bodyPost_ret (v := .tuple #[.agg #[.slice none 0 0, .int .i64 0], .int .i64 (p : Int), .bool false]) (by simp [results, Tryz.results89, go_sem]) rfl ⟨below2S w _ _, .inl ⟨HN.out, _, _, _, _, _, rfl⟩⟩
 have q3 : ¬ (S : Int) < (O : Int) := by omega
 by_cases h4 : S <= p + 42
 case neg =>
   have HN : Hid (¬ LasR s p) := fun h => by have := h.2.2.2.1; rw [<- HS.out] at this; omega
   have q4 : (40 : Int) < (S : Int) - (p : Int) - 2 := by omega
   clear h2
   go_wp2_with fail
   exact bodyPost_ret (v := .tuple #[.agg #[.slice none 0 0, .int .i64 0], .int .i64 (p : Int), .bool false]) (by simp [results, Tryz.results89, go_sem]) rfl ⟨below2S w _ _, .inl ⟨HN.out, _, _, _, _, _, rfl⟩⟩
 have q4 : ¬ (40 : Int) < (S : Int) - (p : Int) - 2 := by omega
 by_cases h5 : O + 2 <= S
 case neg =>
   have HN : Hid (¬ LasR s p) := fun h => by have := h.2.2.2.2.1; rw [<- HS.out, <- HO.out] at this; omega
   have q5 : (S : Int) - (O : Int) < 2 := by omega
   clear h2
   go_wp2_with fail
   exact bodyPost_ret (v := .tuple #[.agg #[.slice none 0 0, .int .i64 0], .int .i64 (p : Int), .bool false]) (by simp [results, Tryz.results89, go_sem]) rfl ⟨below2S w _ _, .inl ⟨HN.out, _, _, _, _, _, rfl⟩⟩
 have q5 : ¬ (S : Int) - (O : Int) < 2 := by omega
 exfalso
 exact HBR.out ⟨by rw [<- HS.out]; exact isAt_yes h1 h2, by rw [<- HS.out, <- HO.out]; exact h3, by rw [<- HS.out]; exact h4, by rw [<- HS.out, <- HO.out]; exact h5⟩
def opI : Option Nat -> Int
 | none => -1
 | some q => (q : Int)
def ShIs (gb : Nat) (G : Gph) (mk : Nat -> ByteArray) (f s ft : ByteArray) (r : Nat -> Nat -> Option Nat) : Prop :=
 ∀ (st p : Nat) (w : World), st < G.n -> p <= s.size -> Hid (Gm w gb G mk) ->
   Calls Tryz.prog 36 #[.agg #[.pointer (some ⟨gb, 0, none⟩), .string f, .string s], .string ft, .int .i64 (st : Int), .int .i64 (p : Int)] w fun e w' => e = .returned (.int .i64 (opI (r st p))) ∧ Below w.heap.size w w'
theorem Gm.drew {w : World} {gb : Nat} {G : Gph} {mk : Nat -> ByteArray} (h : Gm w gb G mk) : Gm w.drew gb G mk := h.below (Below.refl _ _).drew h.lt
theorem atom_ne {c : Nat} (h : isAtom c = true) : c ≠ 40 ∧ c ≠ 69 ∧ c ≠ 33 := by
 simp [isAtom] at h; omega
theorem six_ats {S : Nat -> Bool} {n st : Nat} {b : Bool} (h : st < n) (hn : n <= 6) (hb : S st = b) : (six (upto n S))[st]? = some (.bool b) := by
 rw [six_get _ st (by omega), upto_lt h, hb]
theorem leaf_R (gb st p c : Nat) (G : Gph) (mk : Nat -> ByteArray) (f s ft : ByteArray) (w : World) (hs : s.size <= 4000000) (hp : p <= s.size) (hst : st < G.n) (HG : Hid (Gm w gb G mk))
   (h1 : ft.size = 1) (h2 : ft[0].toNat = c) (hc : isAtom c = true) :
   Calls Tryz.prog 36 #[.agg #[.pointer (some ⟨gb, 0, none⟩), .string f, .string s], .string ft, .int .i64 (st : Int), .int .i64 (p : Int)] w fun e w' =>
     e = .returned (.int .i64 (opI (if isAt s p 46 = true ∧ (decide (c = 84) || G.m st c) = true then some (p + 1) else none))) ∧ Below w.heap.size w w' := by
 have hgl := HG.out.lt
 have hn6 := HG.out.n6
 have c1 : ((c : Int) == 40) = false := by rw [beq_eq_false_iff_ne]; have := atom_ne hc; omega
 have c2 : ((c : Int) == 69) = false := by rw [beq_eq_false_iff_ne]; have := atom_ne hc; omega
 have c3 : ((c : Int) != 33) = true := by rw [bne_iff_ne]; have := atom_ne hc; omega
 obtain ⟨R, hR⟩ : ∃ R, R = opI (if isAt s p 46 = true ∧ (decide (c = 84) || G.m st c) = true then some (p + 1) else none) := ⟨_, rfl⟩
 obtain ⟨b, hb⟩ : ∃ b, b = (decide (c = 84) || G.m st c) := ⟨_, rfl⟩
 obtain ⟨d, hd⟩ : ∃ d, d = isAt s p 46 := ⟨_, rfl⟩
 have HR : Hid (R = opI (if d = true ∧ b = true then some (p + 1) else none)) := by show _ = _; rw [hR, hb, hd]
 rw [<- hR]
 have HP := fun W (h : Hid (Gm W gb G mk)) => plain_is gb c G mk W h
 obtain ⟨C, hC⟩ : ∃ C, C = six (upto G.n fun j => (c == 84) || G.m j c) := ⟨_, rfl⟩
 have hCi : C[st]? = some (.bool b) := by rw [hC]; exact six_ats hst hn6 (by rw [hb]; congr 1)
 have hidx : ∀ W : World, Sem.run Tryz.prog (Instr.index 75 (.agg C) (.int .i64 (st : Int))) W = .ok (.bool b) W := by
   intro W
   have hs2 : (0 : Int) <= (st : Int) ∧ (st : Int) < 6 := by omega
   simp [Instr.index, run_underlying Tryz.underlying75, asIntOf, hs2, hCi, go_sem]
   omega
 rw [<- hC] at HP
 have HIS : ∀ W, Calls Tryz.prog 62 #[.agg #[.pointer (some ⟨gb, 0, none⟩), .string f, .string s], .int .i64 (p : Int), .int .u8 46] W fun e w' => e = .returned (.bool d) ∧ Below W.heap.size W w' := fun W => by rw [hd]; exact is_R (.pointer (some ⟨gb, 0, none⟩)) f s p 46 W hs (by omega) (by omega)
 clear hR hb hd hC
 have wz : IntKind.i64.wrap 0 = 0 := by decide
 have s0 : (0 : Int) <= (st : Int) := by omega
 have s1 : (st : Int) < 6 := by omega
 go_enter Tryz.func36, Tryz.ntmps36
 go_wp2_with fail
 generalize hW : w.alloc (Obj.cells #[Value.pointer (some { block := gb, off := 0 }), Value.string f, Value.string s] 86) = W0
 have HB0 : Hid (Below w.heap.size w W0) := by show Below _ _ _; rw [<- hW]; exact (Below.refl _ _).alloc (Nat.le_refl _) _
 have hWs : W0.heap.size = w.heap.size + 1 := by rw [<- hW]; simp
 have HG0 : Hid (Gm W0 gb G mk) := HG.out.below HB0.out hgl
 have b0 : W0.cell? ⟨w.heap.size, 0, none⟩ = some (.pointer (some ⟨gb, 0, none⟩)) := by rw [<- hW]; simp
 have b1 : W0.cell? ⟨w.heap.size, 1, none⟩ = some (.string f) := by rw [<- hW]; simp
 have b2 : W0.cell? ⟨w.heap.size, 2, none⟩ = some (.string s) := by rw [<- hW]; simp
 clear hW HG
 go_region_held3 (fun w' => w'.cell? ⟨w.heap.size, 0, none⟩ = some (.pointer (some ⟨gb, 0, none⟩))) (first
     | exact b0
     | exact d0) (first
   | (go_at_call 55; refine (HP _ (show Hid _ from HG0.out.drew)).mono ?_; rintro e w1 ⟨rfl, hb1⟩
      have d0 : w1.cell? ⟨w.heap.size, 0, none⟩ = some (.pointer (some ⟨gb, 0, none⟩)) := (hb1.cell (p := ⟨w.heap.size, 0, none⟩) (by simp; omega)).trans b0
      have d1 : w1.cell? ⟨w.heap.size, 1, none⟩ = some (.string f) := (hb1.cell (p := ⟨w.heap.size, 1, none⟩) (by simp; omega)).trans b1
      have d2 : w1.cell? ⟨w.heap.size, 2, none⟩ = some (.string s) := (hb1.cell (p := ⟨w.heap.size, 2, none⟩) (by simp; omega)).trans b2
      have HB1 : Hid (Below w.heap.size w w1) := HB0.out.drew.trans (hb1.mono (by simp; omega))
      clear hb1))
 all_goals
   clear hCi hidx HP
   cases b with
   | false =>
     go_wp2_with fail
     go_ret
     exact ⟨by rw [HR.out]; simp [opI], HB1.out⟩
   | true =>
     cases d with
     | false =>
       go_wp2_with (go_at_call 62; refine (HIS _).mono ?_; rintro e w2 ⟨rfl, hb2⟩)
       go_ret
       exact ⟨by rw [HR.out]; simp [opI], HB1.out.trans (hb2.mono HB1.out.size)⟩
     | true =>
       go_wp2_with (go_at_call 62; refine (HIS _).mono ?_; rintro e w2 ⟨rfl, hb2⟩)
       go_ret
       exact ⟨by rw [HR.out]; simp [opI], HB1.out.trans (hb2.mono HB1.out.size)⟩
theorem leafN_R (gb st p c : Nat) (G : Gph) (mk : Nat -> ByteArray) (f s ft : ByteArray) (w : World) (hs : s.size <= 4000000) (hp : p <= s.size) (hst : st < G.n) (HG : Hid (Gm w gb G mk))
   (h1 : ft.size = 2) (h2 : ft[1].toNat = c) (h0 : ft[0].toNat = 33) (hc : isAtom c = true) :
   Calls Tryz.prog 36 #[.agg #[.pointer (some ⟨gb, 0, none⟩), .string f, .string s], .string ft, .int .i64 (st : Int), .int .i64 (p : Int)] w fun e w' =>
     e = .returned (.int .i64 (opI (if isAt s p 46 = true ∧ (!(decide (c = 84) || G.m st c)) = true then some (p + 1) else none))) ∧ Below w.heap.size w w' := by
 have hgl := HG.out.lt
 have hn6 := HG.out.n6
 obtain ⟨R, hR⟩ : ∃ R, R = opI (if isAt s p 46 = true ∧ (!(decide (c = 84) || G.m st c)) = true then some (p + 1) else none) := ⟨_, rfl⟩
 obtain ⟨b, hb⟩ : ∃ b, b = (decide (c = 84) || G.m st c) := ⟨_, rfl⟩
 obtain ⟨d, hd⟩ : ∃ d, d = isAt s p 46 := ⟨_, rfl⟩
 have HR : Hid (R = opI (if d = true ∧ (!b) = true then some (p + 1) else none)) := by show _ = _; rw [hR, hb, hd]
 rw [<- hR]
 have HP := fun W (h : Hid (Gm W gb G mk)) => plain_is gb c G mk W h
 obtain ⟨C, hC⟩ : ∃ C, C = six (upto G.n fun j => (c == 84) || G.m j c) := ⟨_, rfl⟩
 have hCi : C[st]? = some (.bool b) := by rw [hC]; exact six_ats hst hn6 (by rw [hb]; congr 1)
 have hidx : ∀ W : World, Sem.run Tryz.prog (Instr.index 75 (.agg C) (.int .i64 (st : Int))) W = .ok (.bool b) W := by
   intro W
   have hs2 : (0 : Int) <= (st : Int) ∧ (st : Int) < 6 := by omega
   simp [Instr.index, run_underlying Tryz.underlying75, asIntOf, hs2, hCi, go_sem]
   omega
 rw [<- hC] at HP
 have HIS : ∀ W, Calls Tryz.prog 62 #[.agg #[.pointer (some ⟨gb, 0, none⟩), .string f, .string s], .int .i64 (p : Int), .int .u8 46] W fun e w' => e = .returned (.bool d) ∧ Below W.heap.size W w' := fun W => by rw [hd]; exact is_R (.pointer (some ⟨gb, 0, none⟩)) f s p 46 W hs (by omega) (by omega)
 clear hR hb hd hC
 have wz : IntKind.i64.wrap 1 = 1 := by decide
 have s0 : (0 : Int) <= (st : Int) := by omega
 have s1 : (st : Int) < 6 := by omega
 go_enter Tryz.func36, Tryz.ntmps36
 go_wp2_with fail
 generalize hW : w.alloc (Obj.cells #[Value.pointer (some { block := gb, off := 0 }), Value.string f, Value.string s] 86) = W0
 have HB0 : Hid (Below w.heap.size w W0) := by show Below _ _ _; rw [<- hW]; exact (Below.refl _ _).alloc (Nat.le_refl _) _
 have hWs : W0.heap.size = w.heap.size + 1 := by rw [<- hW]; simp
 have HG0 : Hid (Gm W0 gb G mk) := HG.out.below HB0.out hgl
 have b0 : W0.cell? ⟨w.heap.size, 0, none⟩ = some (.pointer (some ⟨gb, 0, none⟩)) := by rw [<- hW]; simp
 have b1 : W0.cell? ⟨w.heap.size, 1, none⟩ = some (.string f) := by rw [<- hW]; simp
 have b2 : W0.cell? ⟨w.heap.size, 2, none⟩ = some (.string s) := by rw [<- hW]; simp
 clear hW HG
 go_region_held3 (fun w' => w'.cell? ⟨w.heap.size, 0, none⟩ = some (.pointer (some ⟨gb, 0, none⟩))) (first
     | exact b0
     | exact d0) (first
   | (go_at_call 55; refine (HP _ (show Hid _ from HG0.out.drew)).mono ?_; rintro e w1 ⟨rfl, hb1⟩
      have d0 : w1.cell? ⟨w.heap.size, 0, none⟩ = some (.pointer (some ⟨gb, 0, none⟩)) := (hb1.cell (p := ⟨w.heap.size, 0, none⟩) (by simp; omega)).trans b0
      have d1 : w1.cell? ⟨w.heap.size, 1, none⟩ = some (.string f) := (hb1.cell (p := ⟨w.heap.size, 1, none⟩) (by simp; omega)).trans b1
      have d2 : w1.cell? ⟨w.heap.size, 2, none⟩ = some (.string s) := (hb1.cell (p := ⟨w.heap.size, 2, none⟩) (by simp; omega)).trans b2
      have HB1 : Hid (Below w.heap.size w w1) := HB0.out.drew.trans (hb1.mono (by simp; omega))
      clear hb1))
 all_goals
   clear hCi hidx HP
   cases b with
   | true =>
     go_wp2_with fail
     go_ret
     exact ⟨by rw [HR.out]; simp [opI], HB1.out⟩
   | false =>
     cases d with
     | false =>
       go_wp2_with (go_at_call 62; refine (HIS _).mono ?_; rintro e w2 ⟨rfl, hb2⟩)
       go_ret
       exact ⟨by rw [HR.out]; simp [opI], HB1.out.trans (hb2.mono HB1.out.size)⟩
     | true =>
       go_wp2_with (go_at_call 62; refine (HIS _).mono ?_; rintro e w2 ⟨rfl, hb2⟩)
       go_ret
       exact ⟨by rw [HR.out]; simp [opI], HB1.out.trans (hb2.mono HB1.out.size)⟩
abbrev TrV (gb : Nat) (f s : ByteArray) : Value := .agg #[.pointer (some ⟨gb, 0, none⟩), .string f, .string s]
def pairO (s : ByteArray) (sg : Nat) (rl rr : Nat -> Nat -> Option Nat) (st p : Nat) : Option Nat :=
 if sg = 43 then
   if isAt s p 60 = true then rl st (p + 1) else if isAt s p 62 = true then rr st (p + 1) else none
 else if isAt s p 38 = true then
   match rl st (p + 1) with
   | none => none
   | some q => rr st q
 else none
theorem is_lit (gb : Nat) (f s : ByteArray) (p c : Nat) (C : Int) (hC : C = (c : Int)) (w : World) (hs : s.size <= 4000000) (hp : p <= 4000001) (hc : c < 256) :
   Calls Tryz.prog 62 #[TrV gb f s, .int .i64 (p : Int), .int .u8 C] w fun e w' => e = .returned (.bool (isAt s p c)) ∧ Below w.heap.size w w' := by
 rw [hC]
 exact is_R _ f s p c w hs hp hc
theorem trial_box (gb : Nat) (G : Gph) (mk : Nat -> ByteArray) (f s : ByteArray) (w W0 : World) (HG : Gm w gb G mk) (hW : w.alloc (Obj.cells #[Value.pointer (some ⟨gb, 0, none⟩), Value.string f, Value.string s] 86) = W0) :
   W0.heap.size = w.heap.size + 1 ∧ ∀ W, Below (w.heap.size + 1) W0 W -> W.cell? ⟨w.heap.size, 0, none⟩ = some (.pointer (some ⟨gb, 0, none⟩)) ∧ W.cell? ⟨w.heap.size, 1, none⟩ = some (.string f) ∧ W.cell? ⟨w.heap.size, 2, none⟩ = some (.string s) ∧ Gm W gb G mk ∧ Below w.heap.size w W := by
 have hgl := HG.lt
 have hB : Below w.heap.size w W0 := by rw [<- hW]; exact (Below.refl _ _).alloc (Nat.le_refl _) _
 refine ⟨by rw [<- hW]; simp, fun W h => ⟨?_, ?_, ?_, (HG.below hB hgl).below h (by omega), hB.trans (h.mono (by omega))⟩⟩
 · exact (h.cell (p := ⟨w.heap.size, 0, none⟩) (by show w.heap.size < _; omega)).trans (by rw [<- hW]; simp)
 · exact (h.cell (p := ⟨w.heap.size, 1, none⟩) (by show w.heap.size < _; omega)).trans (by rw [<- hW]; simp)
 · exact (h.cell (p := ⟨w.heap.size, 2, none⟩) (by show w.heap.size < _; omega)).trans (by rw [<- hW]; simp)
theorem pair_or (gb st p : Nat) (G : Gph) (mk : Nat -> ByteArray) (f s ft A B : ByteArray) (rl rr : Nat -> Nat -> Option Nat) (w : World) (hs : s.size <= 4000000) (hp : p <= s.size) (hst : st < G.n) (HG : Hid (Gm w gb G mk))
   (HQ : PartsIs ft A B 1 43) (HA : ShIs gb G mk f s A rl) (HB : ShIs gb G mk f s B rr) (hrl : ∀ q, rl st (p + 1) = some q -> q <= s.size) :
   Calls Tryz.prog 60 #[TrV gb f s, .string ft, .int .i64 (st : Int), .int .i64 (p : Int)] w fun e w' => e = .returned (.int .i64 (opI (pairO s 43 rl rr st p))) ∧ Below w.heap.size w w' := by
 have hgl := HG.out.lt
 obtain ⟨R, hR⟩ : ∃ R, R = opI (pairO s 43 rl rr st p) := ⟨_, rfl⟩
 have HR : Hid (R = opI (pairO s 43 rl rr st p)) := hR
 rw [<- hR]
 clear hR
 have HQ1 : ∀ W, Calls Tryz.prog 53 #[.string ft, .int .i64 1] W fun e w' => e = .returned (.tuple #[.string A, .string B, .int .u8 43]) ∧ ∃ n, w' = W.drewN n := fun W => by simpa using HQ W
 clear HQ
 have wp1 : IntKind.i64.wrap ((p : Int) + 1) = (p : Int) + 1 := wrap_small _ (by omega) (by omega)
 have hp0 : (0 : Int) <= (p : Int) := by omega
 go_enter Tryz.func60, Tryz.ntmps60
 go_wp2_with fail
 generalize hW : w.alloc (Obj.cells #[Value.pointer (some ⟨gb, 0, none⟩), Value.string f, Value.string s] 86) = W0
 obtain ⟨hWs, hBW⟩ := trial_box gb G mk f s w W0 HG.out hW
 have HBW : Hid _ := hBW
 clear hW hBW
 have HIS : ∀ (c : Nat) (C : Int) (b : Bool) (W : World), C = (c : Int) -> c < 256 -> isAt s p c = b -> Hid (Below (w.heap.size + 1) W0 W) -> Calls Tryz.prog 62 #[.agg #[.pointer (some ⟨gb, 0, none⟩), .string f, .string s], .int .i64 (p : Int), .int .u8 C] W fun e w' => e = .returned (.bool b) ∧ Below W.heap.size W w' := by
   intro c C b W h1 h2 h3 _
   rw [<- h3]
   exact is_lit gb f s p c C h1 W hs (by omega) h2
 have HSA : ∀ (X : ByteArray) (r : Nat -> Nat -> Option Nat) (q : Nat) (Q : Int) (W : World), ShIs gb G mk f s X r -> Q = (q : Int) -> q <= s.size -> Hid (Below (w.heap.size + 1) W0 W) -> Calls Tryz.prog 36 #[.agg #[.pointer (some ⟨gb, 0, none⟩), .string f, .string s], .string X, .int .i64 (st : Int), .int .i64 Q] W fun e w' => e = .returned (.int .i64 (opI (r st q))) ∧ Below W.heap.size W w' := by
   intro X r q Q W h1 h2 h3 h4
   rw [h2]
   exact h1 st q W hst h3 (HBW.out _ h4.out).2.2.2.1
 refine (HQ1 _).mono ?_
 rintro e w1 ⟨rfl, n, rfl⟩
 have HB1 : Hid (Below (w.heap.size + 1) W0 (W0.drewN n)) := below_drewN (Below.refl _ _) n
 obtain ⟨a1, b1, c1, -, -⟩ := HBW.out _ HB1.out
 clear HQ1
 cases h1 : isAt s p 60 with
 | true =>
   have hlt := isAt_lt h1
   have HI := fun W => HIS 60 60 true W rfl (by omega) h1
   have HX := fun W h => HSA A rl (p + 1) ((p : Int) + 1) W HA (by simp) (by omega) h
   have HR2 : Hid (R = opI (rl st (p + 1))) := by show _ = _; rw [HR.out]; simp [pairO, h1]
   clear HIS HSA HA HB hrl
   obtain ⟨r, hr⟩ : ∃ r, r = opI (rl st (p + 1)) := ⟨_, rfl⟩
   rw [<- hr] at HX HR2
   clear hr
   go_wp2_with fail
   refine (HI _ HB1).mono ?_
   rintro e w2 ⟨rfl, hb2⟩
   have HB2 : Hid (Below (w.heap.size + 1) W0 w2) := HB1.out.trans (hb2.mono (by have := HB1.out.size; omega))
   obtain ⟨a2, b2, c2, -, -⟩ := HBW.out _ HB2.out
   clear hb2 a1 b1 c1
   go_wp2_with fail
   refine (HX _ HB2).mono ?_
   rintro e w3 ⟨rfl, hb3⟩
   have HB3 : Hid (Below (w.heap.size + 1) W0 w3) := HB2.out.trans (hb3.mono (by have := HB2.out.size; omega))
   obtain ⟨a3, b3, c3, -, -⟩ := HBW.out _ HB3.out
   clear hb3 a2 b2 c2
   go_wp2_with fail
   go_ret
   exact ⟨by rw [HR2.out]; rfl, (HBW.out _ HB3.out).2.2.2.2⟩
 | false =>
   have HI := fun W => HIS 60 60 false W rfl (by omega) h1
   cases h2 : isAt s p 62 with
   | true =>
     have hlt := isAt_lt h2
     have HI2 := fun W => HIS 62 62 true W rfl (by omega) h2
     have HX := fun W h => HSA B rr (p + 1) ((p : Int) + 1) W HB (by simp) (by omega) h
     have HR2 : Hid (R = opI (rr st (p + 1))) := by show _ = _; rw [HR.out]; simp [pairO, h1, h2]
     clear HIS HSA HA HB hrl
     obtain ⟨r, hr⟩ : ∃ r, r = opI (rr st (p + 1)) := ⟨_, rfl⟩
     rw [<- hr] at HX HR2
     clear hr
     go_wp2_with fail
     refine (HI _ HB1).mono ?_
     rintro e w2 ⟨rfl, hb2⟩
     have HB2 : Hid (Below (w.heap.size + 1) W0 w2) := HB1.out.trans (hb2.mono (by have := HB1.out.size; omega))
     obtain ⟨a2, b2, c2, -, -⟩ := HBW.out _ HB2.out
     clear hb2 a1 b1 c1
     go_wp2_with fail
     refine (HI2 _ HB2).mono ?_
     rintro e w3 ⟨rfl, hb3⟩
     have HB3 : Hid (Below (w.heap.size + 1) W0 w3) := HB2.out.trans (hb3.mono (by have := HB2.out.size; omega))
     obtain ⟨a3, b3, c3, -, -⟩ := HBW.out _ HB3.out
     clear hb3 a2 b2 c2
     go_wp2_with fail
     refine (HX _ HB3).mono ?_
     rintro e w4 ⟨rfl, hb4⟩
     have HB4 : Hid (Below (w.heap.size + 1) W0 w4) := HB3.out.trans (hb4.mono (by have := HB3.out.size; omega))
     obtain ⟨a4, b4, c4, -, -⟩ := HBW.out _ HB4.out
     clear hb4 a3 b3 c3
     go_wp2_with fail
     go_ret
     exact ⟨by rw [HR2.out]; rfl, (HBW.out _ HB4.out).2.2.2.2⟩
   | false =>
     have HI2 := fun W => HIS 62 62 false W rfl (by omega) h2
     have HR2 : Hid (R = -1) := by show _ = _; rw [HR.out]; simp [pairO, h1, h2, opI]
     clear HIS HSA HA HB hrl
     go_wp2_with fail
     refine (HI _ HB1).mono ?_
     rintro e w2 ⟨rfl, hb2⟩
     have HB2 : Hid (Below (w.heap.size + 1) W0 w2) := HB1.out.trans (hb2.mono (by have := HB1.out.size; omega))
     obtain ⟨a2, b2, c2, -, -⟩ := HBW.out _ HB2.out
     clear hb2 a1 b1 c1
     go_wp2_with fail
     refine (HI2 _ HB2).mono ?_
     rintro e w3 ⟨rfl, hb3⟩
     have HB3 : Hid (Below (w.heap.size + 1) W0 w3) := HB2.out.trans (hb3.mono (by have := HB2.out.size; omega))
     obtain ⟨a3, b3, c3, -, -⟩ := HBW.out _ HB3.out
     clear hb3 a2 b2 c2
     go_wp2_with fail
     go_ret
     exact ⟨by rw [HR2.out]; rfl, (HBW.out _ HB3.out).2.2.2.2⟩
theorem pair_and (gb st p : Nat) (G : Gph) (mk : Nat -> ByteArray) (f s ft A B : ByteArray) (rl rr : Nat -> Nat -> Option Nat) (w : World) (hs : s.size <= 4000000) (hp : p <= s.size) (hst : st < G.n) (HG : Hid (Gm w gb G mk))
   (HQ : PartsIs ft A B 1 38) (HA : ShIs gb G mk f s A rl) (HB : ShIs gb G mk f s B rr) (hrl : ∀ q, rl st (p + 1) = some q -> q <= s.size) :
   Calls Tryz.prog 60 #[TrV gb f s, .string ft, .int .i64 (st : Int), .int .i64 (p : Int)] w fun e w' => e = .returned (.int .i64 (opI (pairO s 38 rl rr st p))) ∧ Below w.heap.size w w' := by
 have hgl := HG.out.lt
 obtain ⟨R, hR⟩ : ∃ R, R = opI (pairO s 38 rl rr st p) := ⟨_, rfl⟩
 have HR : Hid (R = opI (pairO s 38 rl rr st p)) := hR
 rw [<- hR]
 clear hR
 have HQ1 : ∀ W, Calls Tryz.prog 53 #[.string ft, .int .i64 1] W fun e w' => e = .returned (.tuple #[.string A, .string B, .int .u8 38]) ∧ ∃ n, w' = W.drewN n := fun W => by simpa using HQ W
 clear HQ
 have wp1 : IntKind.i64.wrap ((p : Int) + 1) = (p : Int) + 1 := wrap_small _ (by omega) (by omega)
 have hp0 : (0 : Int) <= (p : Int) := by omega
 go_enter Tryz.func60, Tryz.ntmps60
 go_wp2_with fail
 generalize hW : w.alloc (Obj.cells #[Value.pointer (some ⟨gb, 0, none⟩), Value.string f, Value.string s] 86) = W0
 obtain ⟨hWs, hBW⟩ := trial_box gb G mk f s w W0 HG.out hW
 have HBW : Hid _ := hBW
 clear hW hBW
 have HIS : ∀ (c : Nat) (C : Int) (b : Bool) (W : World), C = (c : Int) -> c < 256 -> isAt s p c = b -> Hid (Below (w.heap.size + 1) W0 W) -> Calls Tryz.prog 62 #[.agg #[.pointer (some ⟨gb, 0, none⟩), .string f, .string s], .int .i64 (p : Int), .int .u8 C] W fun e w' => e = .returned (.bool b) ∧ Below W.heap.size W w' := by
   intro c C b W h1 h2 h3 _
   rw [<- h3]
   exact is_lit gb f s p c C h1 W hs (by omega) h2
 have HSA : ∀ (X : ByteArray) (r : Nat -> Nat -> Option Nat) (q : Nat) (Q : Int) (W : World), ShIs gb G mk f s X r -> Q = (q : Int) -> q <= s.size -> Hid (Below (w.heap.size + 1) W0 W) -> Calls Tryz.prog 36 #[.agg #[.pointer (some ⟨gb, 0, none⟩), .string f, .string s], .string X, .int .i64 (st : Int), .int .i64 Q] W fun e w' => e = .returned (.int .i64 (opI (r st q))) ∧ Below W.heap.size W w' := by
   intro X r q Q W h1 h2 h3 h4
   rw [h2]
   exact h1 st q W hst h3 (HBW.out _ h4.out).2.2.2.1
 refine (HQ1 _).mono ?_
 rintro e w1 ⟨rfl, n, rfl⟩
 have HB1 : Hid (Below (w.heap.size + 1) W0 (W0.drewN n)) := below_drewN (Below.refl _ _) n
 obtain ⟨a1, b1, c1, -, -⟩ := HBW.out _ HB1.out
 clear HQ1
 cases h1 : isAt s p 38 with
 | true =>
   have hlt := isAt_lt h1
   have HI := fun W => HIS 38 38 true W rfl (by omega) h1
   cases h2 : rl st (p + 1) with
   | none =>
     have HX : ∀ W, Hid (Below (w.heap.size + 1) W0 W) -> Calls Tryz.prog 36 #[.agg #[.pointer (some ⟨gb, 0, none⟩), .string f, .string s], .string A, .int .i64 (st : Int), .int .i64 ((p : Int) + 1)] W fun e w' => e = .returned (.int .i64 (-1)) ∧ Below W.heap.size W w' := fun W h => by have := HSA A rl (p + 1) ((p : Int) + 1) W HA (by simp) (by omega) h; rw [h2] at this; exact this
     have HR2 : Hid (R = -1) := by show _ = _; rw [HR.out]; simp [pairO, h1, h2, opI]
     clear HIS HSA HA HB hrl
     go_wp2_with fail
     refine (HI _ HB1).mono ?_
     rintro e w2 ⟨rfl, hb2⟩
     have HB2 : Hid (Below (w.heap.size + 1) W0 w2) := HB1.out.trans (hb2.mono (by have := HB1.out.size; omega))
     obtain ⟨a2, b2, c2, -, -⟩ := HBW.out _ HB2.out
     clear hb2 a1 b1 c1
     go_wp2_with fail
     refine (HX _ HB2).mono ?_
     rintro e w3 ⟨rfl, hb3⟩
     have HB3 : Hid (Below (w.heap.size + 1) W0 w3) := HB2.out.trans (hb3.mono (by have := HB2.out.size; omega))
     obtain ⟨a3, b3, c3, -, -⟩ := HBW.out _ HB3.out
     clear hb3 a2 b2 c2
     go_wp2_with fail
     go_ret
     exact ⟨by rw [HR2.out]; rfl, (HBW.out _ HB3.out).2.2.2.2⟩
   | some q =>
     have hq := hrl q h2
     have HX : ∀ W, Hid (Below (w.heap.size + 1) W0 W) -> Calls Tryz.prog 36 #[.agg #[.pointer (some ⟨gb, 0, none⟩), .string f, .string s], .string A, .int .i64 (st : Int), .int .i64 ((p : Int) + 1)] W fun e w' => e = .returned (.int .i64 (q : Int)) ∧ Below W.heap.size W w' := fun W h => by have := HSA A rl (p + 1) ((p : Int) + 1) W HA (by simp) (by omega) h; rw [h2] at this; exact this
     have HY := fun W h => HSA B rr q (q : Int) W HB rfl hq h
     have HR2 : Hid (R = opI (rr st q)) := by show _ = _; rw [HR.out]; simp [pairO, h1, h2]
     obtain ⟨r, hr⟩ : ∃ r, r = opI (rr st q) := ⟨_, rfl⟩
     rw [<- hr] at HY HR2
     have q0 : ¬ (q : Int) < 0 := by omega
     clear hr HIS HSA HA HB hrl
     go_wp2_with fail
     refine (HI _ HB1).mono ?_
     rintro e w2 ⟨rfl, hb2⟩
     have HB2 : Hid (Below (w.heap.size + 1) W0 w2) := HB1.out.trans (hb2.mono (by have := HB1.out.size; omega))
     obtain ⟨a2, b2, c2, -, -⟩ := HBW.out _ HB2.out
     clear hb2 a1 b1 c1
     go_wp2_with fail
     refine (HX _ HB2).mono ?_
     rintro e w3 ⟨rfl, hb3⟩
     have HB3 : Hid (Below (w.heap.size + 1) W0 w3) := HB2.out.trans (hb3.mono (by have := HB2.out.size; omega))
     obtain ⟨a3, b3, c3, -, -⟩ := HBW.out _ HB3.out
     clear hb3 a2 b2 c2
     go_wp2_with fail
     refine (HY _ HB3).mono ?_
     rintro e w4 ⟨rfl, hb4⟩
     have HB4 : Hid (Below (w.heap.size + 1) W0 w4) := HB3.out.trans (hb4.mono (by have := HB3.out.size; omega))
     obtain ⟨a4, b4, c4, -, -⟩ := HBW.out _ HB4.out
     clear hb4 a3 b3 c3
     go_wp2_with fail
     go_ret
     exact ⟨by rw [HR2.out]; rfl, (HBW.out _ HB4.out).2.2.2.2⟩
 | false =>
   have HI := fun W => HIS 38 38 false W rfl (by omega) h1
   have HR2 : Hid (R = -1) := by show _ = _; rw [HR.out]; simp [pairO, h1, opI]
   clear HIS HSA HA HB hrl
   go_wp2_with fail
   refine (HI _ HB1).mono ?_
   rintro e w2 ⟨rfl, hb2⟩
   have HB2 : Hid (Below (w.heap.size + 1) W0 w2) := HB1.out.trans (hb2.mono (by have := HB1.out.size; omega))
   obtain ⟨a2, b2, c2, -, -⟩ := HBW.out _ HB2.out
   clear hb2 a1 b1 c1
   go_wp2_with fail
   go_ret
   exact ⟨by rw [HR2.out]; rfl, (HBW.out _ HB2.out).2.2.2.2⟩
def endsU (F H : Nat -> Nat -> Option Nat) (s : ByteArray) (ls : List Nat) (p : Nat) : Option Nat :=
 match plc F s ls p with
 | none => none
 | some y => if y.1 < ls.length ∧ isAt s y.2 45 = true then H (ls.getD y.1 0) (y.2 + 1) else none
def endsR (F H : Nat -> Nat -> Option Nat) (s : ByteArray) (ls : List Nat) (p : Nat) : Option Nat :=
 match plc F s ls p with
 | none => none
 | some y =>
   if y.1 = 0 then none
   else if isAt s y.2 111 = true then (if y.1 = ls.length then some (y.2 + 1) else none)
   else if isAt s y.2 45 = true then H (ls.getD (y.1 - 1) 0) (y.2 + 1)
   else none
theorem isAt_one {s : ByteArray} {p c d : Nat} (h : isAt s p c = true) (hd : c ≠ d) : isAt s p d = false := by
 cases e : isAt s p d with
 | false => rfl
 | true => have h1 := (isAt_iff.1 h).2; have h2 := (isAt_iff.1 e).2; omega
theorem ends_box (gb gl cap fr N : Nat) (ls : List Nat) (G : Gph) (mk : Nat -> ByteArray) (f s : ByteArray) (w W0 : World) (HG : Gm w gb G mk) (HL : Lr w gl ls)
   (hW : (w.alloc (Obj.cells #[Value.pointer (some ⟨gb, 0, none⟩), Value.string f, Value.string s] 86)).alloc (Obj.cells #[Value.slice (some ⟨gl, 0, none⟩) N cap, Value.int IntKind.i64 (fr : Int)] 146) = W0) :
   W0.heap.size = w.heap.size + 2 ∧ ∀ W, Below (w.heap.size + 2) W0 W -> W.cell? ⟨w.heap.size, 0, none⟩ = some (.pointer (some ⟨gb, 0, none⟩)) ∧ W.cell? ⟨w.heap.size, 1, none⟩ = some (.string f) ∧ W.cell? ⟨w.heap.size, 2, none⟩ = some (.string s) ∧ W.cell? ⟨w.heap.size + 1, 0, none⟩ = some (.slice (some ⟨gl, 0, none⟩) N cap) ∧ Gm W gb G mk ∧ Lr W gl ls ∧ Below w.heap.size w W := by
 have hgl := HG.lt
 have hll := HL.lt
 have hB : Below w.heap.size w W0 := by rw [<- hW]; exact below2S w _ _
 refine ⟨by rw [<- hW]; simp, fun W h => ⟨?_, ?_, ?_, ?_, (HG.below hB hgl).below h (by omega), (HL.below hB hll).below h (by omega), hB.trans (h.mono (by omega))⟩⟩
 · exact (h.cell (p := ⟨w.heap.size, 0, none⟩) (by show w.heap.size < _; omega)).trans (by rw [<- hW]; simp)
 · exact (h.cell (p := ⟨w.heap.size, 1, none⟩) (by show w.heap.size < _; omega)).trans (by rw [<- hW]; simp)
 · exact (h.cell (p := ⟨w.heap.size, 2, none⟩) (by show w.heap.size < _; omega)).trans (by rw [<- hW]; simp)
 · exact (h.cell (p := ⟨w.heap.size + 1, 0, none⟩) (by show w.heap.size + 1 < _; omega)).trans (by rw [<- hW]; simp)
theorem ends_U (gb gl cap fr p : Nat) (ls : List Nat) (G : Gph) (mk : Nat -> ByteArray) (f s X Y : ByteArray) (F H : Nat -> Nat -> Option Nat) (w : World) (hs : s.size <= 4000000) (hp : p <= s.size) (hl : ls.length <= 40) (HG : Hid (Gm w gb G mk)) (HL : Hid (Lr w gl ls)) (HALL : Hid (∀ j, j < ls.length -> ls.getD j 0 < G.n))
   (HX : ShIs gb G mk f s X F) (HY : ShIs gb G mk f s Y H) (hF : ∀ x a q, a <= s.size -> F x a = some q -> q <= s.size) (h0 : 0 < ls.length) :
   Calls Tryz.prog 92 #[.agg #[.pointer (some ⟨gb, 0, none⟩), .string f, .string s], .string X, .string Y, .agg #[.slice (some ⟨gl, 0, none⟩) ls.length cap, .int .i64 (fr : Int)], .int .i64 (p : Int), .int .i64 0] w fun e w' => e = .returned (.int .i64 (opI (endsU F H s ls p))) ∧ Below w.heap.size w w' := by
 have hgl := HG.out.lt
 have hll := HL.out.lt
 obtain ⟨R, hR⟩ : ∃ R, R = opI (endsU F H s ls p) := ⟨_, rfl⟩
 have HR : Hid (R = opI (endsU F H s ls p)) := hR
 rw [<- hR]
 clear hR
 obtain ⟨N, hN⟩ : ∃ N, N = ls.length := ⟨_, rfl⟩
 have HN : Hid (N = ls.length) := hN
 rw [<- hN] at hl h0 ⊢
 clear hN
 go_enter Tryz.func92, Tryz.ntmps92
 go_wp2_with fail
 generalize hW : (w.alloc (Obj.cells #[Value.pointer (some ⟨gb, 0, none⟩), Value.string f, Value.string s] 86)).alloc (Obj.cells #[Value.slice (some ⟨gl, 0, none⟩) N cap, Value.int IntKind.i64 (fr : Int)] 146) = W0
 obtain ⟨hWs, hBW⟩ := ends_box gb gl cap fr N ls G mk f s w W0 HG.out HL.out hW
 have HBW : Hid _ := hBW
 clear hW hBW
 have HIS : ∀ (c : Nat) (C : Int) (b : Bool) (m : Nat) (W : World), C = (c : Int) -> c < 256 -> m <= 4000001 -> isAt s m c = b -> Hid (Below (w.heap.size + 2) W0 W) -> Calls Tryz.prog 62 #[.agg #[.pointer (some ⟨gb, 0, none⟩), .string f, .string s], .int .i64 (m : Int), .int .u8 C] W fun e w' => e = .returned (.bool b) ∧ Below W.heap.size W w' := by
   intro c C b m W h1 h2 hm h3 _
   rw [<- h3]
   exact is_lit gb f s m c C h1 W hs hm h2
 have HSX : ∀ (x m : Nat) (W : World), x < G.n -> m < s.size -> Hid (Below (w.heap.size + 2) W0 W) -> Calls Tryz.prog 36 #[.agg #[.pointer (some ⟨gb, 0, none⟩), .string f, .string s], .string X, .int .i64 (x : Int), .int .i64 ((m : Int) + 1)] W fun e w' => e = .returned (.int .i64 (opI (F x (m + 1)))) ∧ Below W.heap.size W w' := by
   intro x m W h1 h2 h4
   have := HX x (m + 1) W h1 h2 (HBW.out _ h4.out).2.2.2.2.1
   simpa using this
 have HSY : ∀ (x m : Nat) (W : World), x < G.n -> m < s.size -> Hid (Below (w.heap.size + 2) W0 W) -> Calls Tryz.prog 36 #[.agg #[.pointer (some ⟨gb, 0, none⟩), .string f, .string s], .string Y, .int .i64 (x : Int), .int .i64 ((m : Int) + 1)] W fun e w' => e = .returned (.int .i64 (opI (H x (m + 1)))) ∧ Below W.heap.size W w' := by
   intro x m W h1 h2 h4
   have := HY x (m + 1) W h1 h2 (HBW.out _ h4.out).2.2.2.2.1
   simpa using this
 have HF : Hid (∀ x a q, a <= s.size -> F x a = some q -> q <= s.size) := hF
 clear HX HY HG HL hF
 go_loopw [4, 13] (fun a q wr => ∃ n m : Nat, a = .int .i64 m ∧ q = .int .i64 n ∧ m <= s.size ∧ n <= N ∧ Hid (Below (w.heap.size + 2) W0 wr) ∧ Hid (PlcInv F s ls p n m)) (fun _ q _ => N - (intOf q).toNat)
 case atStart => exact ⟨0, p, rfl, rfl, hp, by omega, Below.refl _ _, PlcInv.start _ _ _ _⟩
 case round =>
   obtain ⟨n, m, rfl, rfl, hm, hn, HB1, HP⟩ := hrel
   obtain ⟨a1, b1, c1, d1, -, hL1, -⟩ := HBW.out _ HB1.out
   have wm : IntKind.i64.wrap ((m : Int) + 1) = (m : Int) + 1 := wrap_small _ (by omega) (by omega)
   have m0 : ¬ (m : Int) < 0 := by omega
   have wn : IntKind.i64.wrap (n : Int) = (n : Int) := wrap_small _ (by omega) (by omega)
   have wneg : IntKind.i64.wrap (-1) = -1 := by decide
   have n0 : (0 : Int) <= (n : Int) := by omega
   cases h1 : isAt s m 44 with
   | true =>
     have hlt := isAt_lt h1
     by_cases hnN : n < N
     · have hnN2 : (n : Int) < (N : Int) := by omega
       have hnl : n < ls.length := by rw [<- HN.out]; exact hnN
       obtain ⟨x, hx⟩ : ∃ x, x = ls.getD n 0 := ⟨_, rfl⟩
       have hxn : x < G.n := by rw [hx]; exact HALL.out n hnl
       cases h2 : F x (m + 1) with
       | none =>
         have HR2 : Hid (R = -1) := by show _ = _; rw [HR.out, endsU, HP.out.bad hnl h1 (by rw [<- hx]; exact h2)]; rfl
         have HC : ∀ W, Hid (Below (w.heap.size + 2) W0 W) -> Calls Tryz.prog 36 #[.agg #[.pointer (some ⟨gb, 0, none⟩), .string f, .string s], .string X, .int .i64 (x : Int), .int .i64 ((m : Int) + 1)] W fun e w' => e = .returned (.int .i64 (-1)) ∧ Below W.heap.size W w' := fun W h => by have := HSX x m W hxn hlt h; rw [h2] at this; exact this
         go_wp2_with fail
         have HI2 := HIS 44 44 true m _ rfl (by omega) (by omega) h1 HB1
         refine HI2.mono ?_
         rintro e w2 ⟨rfl, hb2⟩
         have HB2 : Hid (Below (w.heap.size + 2) W0 w2) := HB1.out.trans (hb2.mono (by have := HB1.out.size; omega))
         obtain ⟨a2, b2, c2, d2, -, hL2, -⟩ := HBW.out _ HB2.out
         have hz2 : w.heap.size + 2 <= w2.heap.size := by have := HB2.out.size; omega
         clear hb2 a1 b1 c1 d1 HI2
         have hdc2 := d2
         have cx := hL2.c n hnl
         rw [<- hx] at cx
         have hsz : w.heap.size + 2 <= w2.heap.size := by have := HB2.out.size; omega
         have hglz : gl < w2.heap.size := by omega
         clear hx hL2 hL1 HSX HSY HIS
         go_wp2_with fail
         go_region_held3 (fun w' => w'.cell? ⟨w.heap.size, 0, none⟩ = some (.pointer (some ⟨gb, 0, none⟩)) ∧ w'.cell? ⟨w.heap.size, 1, none⟩ = some (.string f) ∧ w'.cell? ⟨w.heap.size, 2, none⟩ = some (.string s) ∧ w'.cell? ⟨w.heap.size + 1, 0, none⟩ = some (.slice (some ⟨gl, 0, none⟩) N cap) ∧ w'.cell? ⟨gl, n, none⟩ = some (.int .i64 (x : Int))) (first
             | exact ⟨a2, b2, c2, d2, cx⟩
             | exact ⟨a3, b3, c3, d3, cy⟩) (first
           | (go_at_call 36; refine (HC _ (show Hid _ from HB2.out.drew)).mono ?_; rintro e w3 ⟨rfl, hb3⟩
              have HB3 : Hid (Below (w.heap.size + 2) W0 w3) := HB2.out.drew.trans (hb3.mono hsz)
              obtain ⟨a3, b3, c3, d3, -, hL3, -⟩ := HBW.out _ HB3.out
              have cy := (hb3.cell (p := ⟨gl, n, none⟩) hglz).trans cx
              clear hb3 hL3))
         all_goals
           go_wp2_with fail
           go_ret
           exact ⟨by rw [HR2.out]; rfl, (HBW.out _ HB3.out).2.2.2.2.2.2⟩
       | some q =>
         have hq := HF.out x (m + 1) q hlt h2
         have HP2 : Hid (PlcInv F s ls p (n + 1) q) := HP.out.step hnl h1 (by rw [<- hx]; exact h2)
         have q0 : ¬ (q : Int) < 0 := by omega
         have HC : ∀ W, Hid (Below (w.heap.size + 2) W0 W) -> Calls Tryz.prog 36 #[.agg #[.pointer (some ⟨gb, 0, none⟩), .string f, .string s], .string X, .int .i64 (x : Int), .int .i64 ((m : Int) + 1)] W fun e w' => e = .returned (.int .i64 (q : Int)) ∧ Below W.heap.size W w' := fun W h => by have := HSX x m W hxn hlt h; rw [h2] at this; exact this
         go_wp2_with fail
         have HI2 := HIS 44 44 true m _ rfl (by omega) (by omega) h1 HB1
         refine HI2.mono ?_
         rintro e w2 ⟨rfl, hb2⟩
         have HB2 : Hid (Below (w.heap.size + 2) W0 w2) := HB1.out.trans (hb2.mono (by have := HB1.out.size; omega))
         obtain ⟨a2, b2, c2, d2, -, hL2, -⟩ := HBW.out _ HB2.out
         have hz2 : w.heap.size + 2 <= w2.heap.size := by have := HB2.out.size; omega
         clear hb2 a1 b1 c1 d1 HI2
         have hdc2 := d2
         have cx := hL2.c n hnl
         rw [<- hx] at cx
         have hsz : w.heap.size + 2 <= w2.heap.size := by have := HB2.out.size; omega
         have hglz : gl < w2.heap.size := by omega
         clear hx hL2 hL1 HSX HSY HIS
         go_wp2_with fail
         go_region_held3 (fun w' => w'.cell? ⟨w.heap.size, 0, none⟩ = some (.pointer (some ⟨gb, 0, none⟩)) ∧ w'.cell? ⟨w.heap.size, 1, none⟩ = some (.string f) ∧ w'.cell? ⟨w.heap.size, 2, none⟩ = some (.string s) ∧ w'.cell? ⟨w.heap.size + 1, 0, none⟩ = some (.slice (some ⟨gl, 0, none⟩) N cap) ∧ w'.cell? ⟨gl, n, none⟩ = some (.int .i64 (x : Int))) (first
             | exact ⟨a2, b2, c2, d2, cx⟩
             | exact ⟨a3, b3, c3, d3, cy⟩) (first
           | (go_at_call 36; refine (HC _ (show Hid _ from HB2.out.drew)).mono ?_; rintro e w3 ⟨rfl, hb3⟩
              have HB3 : Hid (Below (w.heap.size + 2) W0 w3) := HB2.out.drew.trans (hb3.mono hsz)
              obtain ⟨a3, b3, c3, d3, -, hL3, -⟩ := HBW.out _ HB3.out
              have cy := (hb3.cell (p := ⟨gl, n, none⟩) hglz).trans cx
              clear hb3 hL3))
         all_goals
           go_wp2_with fail
           go_roundw
           case rel => exact ⟨n + 1, q, rfl, by go_num, hq, by omega, HB3, HP2⟩
           case measure => simp [intOf]; omega
     · have hnN2 : ¬ (n : Int) < (N : Int) := by omega
       have HPL : Hid (plc F s ls p = some (n, m)) := by
         show _ = _
         have e : n = ls.length := by rw [<- HN.out]; omega
         have := HP.out
         rw [e] at this ⊢
         exact this.full
       clear hL1
       go_wp2_with fail
       have HI2 := HIS 44 44 true m _ rfl (by omega) (by omega) h1 HB1
       refine HI2.mono ?_
       rintro e w2 ⟨rfl, hb2⟩
       have HB2 : Hid (Below (w.heap.size + 2) W0 w2) := HB1.out.trans (hb2.mono (by have := HB1.out.size; omega))
       obtain ⟨a2, b2, c2, d2, -, hL2, -⟩ := HBW.out _ HB2.out
       have hz2 : w.heap.size + 2 <= w2.heap.size := by have := HB2.out.size; omega
       clear hb2 a1 b1 c1 d1 HI2
       have hdc2 := d2
       cases h3 : isAt s m 45 with
       | false =>
         have HR2 : Hid (R = -1) := by show _ = _; rw [HR.out, endsU, HPL.out]; simp [h3, opI]
         go_wp2_with fail
         have HI3 := HIS 45 45 false m _ rfl (by omega) (by omega) h3 HB2
         refine HI3.mono ?_
         rintro e w3 ⟨rfl, hb3⟩
         have HB3 : Hid (Below (w.heap.size + 2) W0 w3) := HB2.out.trans (hb3.mono (by have := HB2.out.size; omega))
         obtain ⟨a3, b3, c3, d3, -, hL3, -⟩ := HBW.out _ HB3.out
         have hz3 : w.heap.size + 2 <= w3.heap.size := by have := HB3.out.size; omega
         clear hb3 a2 b2 c2 d2 HI3
         have hdc3 := d3
         go_wp2_with fail
         go_ret
         exact ⟨by rw [HR2.out]; rfl, (HBW.out _ HB3.out).2.2.2.2.2.2⟩
       | true =>
         have hlt3 := isAt_lt h3
         by_cases hnN : n < N
         · exfalso; omega
         · have hnN2 : ¬ (n : Int) < (N : Int) := by omega
           have hnN3 : (N : Int) <= (n : Int) := by omega
           have HR2 : Hid (R = -1) := by show _ = _; rw [HR.out, endsU, HPL.out]; simp only; rw [if_neg (by rw [<- HN.out]; omega)]; rfl
           go_wp2_with fail
           have HI3 := HIS 45 45 true m _ rfl (by omega) (by omega) h3 HB2
           refine HI3.mono ?_
           rintro e w3 ⟨rfl, hb3⟩
           have HB3 : Hid (Below (w.heap.size + 2) W0 w3) := HB2.out.trans (hb3.mono (by have := HB2.out.size; omega))
           obtain ⟨a3, b3, c3, d3, -, hL3, -⟩ := HBW.out _ HB3.out
           have hz3 : w.heap.size + 2 <= w3.heap.size := by have := HB3.out.size; omega
           clear hb3 a2 b2 c2 d2 HI3
           have hdc3 := d3
           go_wp2_with fail
           go_ret
           exact ⟨by rw [HR2.out]; rfl, (HBW.out _ HB3.out).2.2.2.2.2.2⟩
   | false =>
     have HPL : Hid (plc F s ls p = some (n, m)) := by
       show _ = _
       by_cases h : n < ls.length
       · exact HP.out.stop h h1
       · have e : n = ls.length := by have := HN.out; omega
         have := HP.out
         rw [e] at this ⊢
         exact this.full
     clear hL1
     go_wp2_with fail
     have HI2 := HIS 44 44 false m _ rfl (by omega) (by omega) h1 HB1
     refine HI2.mono ?_
     rintro e w2 ⟨rfl, hb2⟩
     have HB2 : Hid (Below (w.heap.size + 2) W0 w2) := HB1.out.trans (hb2.mono (by have := HB1.out.size; omega))
     obtain ⟨a2, b2, c2, d2, -, hL2, -⟩ := HBW.out _ HB2.out
     have hz2 : w.heap.size + 2 <= w2.heap.size := by have := HB2.out.size; omega
     clear hb2 a1 b1 c1 d1 HI2
     have hdc2 := d2
     cases h3 : isAt s m 45 with
     | false =>
       have HR2 : Hid (R = -1) := by show _ = _; rw [HR.out, endsU, HPL.out]; simp [h3, opI]
       go_wp2_with fail
       have HI3 := HIS 45 45 false m _ rfl (by omega) (by omega) h3 HB2
       refine HI3.mono ?_
       rintro e w3 ⟨rfl, hb3⟩
       have HB3 : Hid (Below (w.heap.size + 2) W0 w3) := HB2.out.trans (hb3.mono (by have := HB2.out.size; omega))
       obtain ⟨a3, b3, c3, d3, -, hL3, -⟩ := HBW.out _ HB3.out
       have hz3 : w.heap.size + 2 <= w3.heap.size := by have := HB3.out.size; omega
       clear hb3 a2 b2 c2 d2 HI3
       have hdc3 := d3
       go_wp2_with fail
       go_ret
       exact ⟨by rw [HR2.out]; rfl, (HBW.out _ HB3.out).2.2.2.2.2.2⟩
     | true =>
       have hlt3 := isAt_lt h3
       by_cases hnN : n < N
       · have hnN2 : (n : Int) < (N : Int) := by omega
         have hnl : n < ls.length := by rw [<- HN.out]; exact hnN
         obtain ⟨x, hx⟩ : ∃ x, x = ls.getD n 0 := ⟨_, rfl⟩
         have hxn : x < G.n := by rw [hx]; exact HALL.out n hnl
         have HR2 : Hid (R = opI (H x (m + 1))) := by show _ = _; rw [HR.out, endsU, HPL.out]; simp only; rw [if_pos ⟨hnl, h3⟩, hx]
         obtain ⟨r, hr⟩ : ∃ r, r = opI (H x (m + 1)) := ⟨_, rfl⟩
         rw [<- hr] at HR2
         have HC : ∀ W, Hid (Below (w.heap.size + 2) W0 W) -> Calls Tryz.prog 36 #[.agg #[.pointer (some ⟨gb, 0, none⟩), .string f, .string s], .string Y, .int .i64 (x : Int), .int .i64 ((m : Int) + 1)] W fun e w' => e = .returned (.int .i64 r) ∧ Below W.heap.size W w' := fun W h => by rw [hr]; exact HSY x m W hxn hlt3 h
         go_wp2_with fail
         have HI3 := HIS 45 45 true m _ rfl (by omega) (by omega) h3 HB2
         refine HI3.mono ?_
         rintro e w3 ⟨rfl, hb3⟩
         have HB3 : Hid (Below (w.heap.size + 2) W0 w3) := HB2.out.trans (hb3.mono (by have := HB2.out.size; omega))
         obtain ⟨a3, b3, c3, d3, -, hL3, -⟩ := HBW.out _ HB3.out
         have hz3 : w.heap.size + 2 <= w3.heap.size := by have := HB3.out.size; omega
         clear hb3 a2 b2 c2 d2 HI3
         have hdc3 := d3
         have cx := hL3.c n hnl
         rw [<- hx] at cx
         have hsz : w.heap.size + 2 <= w3.heap.size := by have := HB3.out.size; omega
         have hglz : gl < w3.heap.size := by omega
         clear hx hr hL3
         go_wp2_with fail
         go_region_held3 (fun w' => w'.cell? ⟨w.heap.size, 0, none⟩ = some (.pointer (some ⟨gb, 0, none⟩)) ∧ w'.cell? ⟨w.heap.size, 1, none⟩ = some (.string f) ∧ w'.cell? ⟨w.heap.size, 2, none⟩ = some (.string s) ∧ w'.cell? ⟨w.heap.size + 1, 0, none⟩ = some (.slice (some ⟨gl, 0, none⟩) N cap) ∧ w'.cell? ⟨gl, n, none⟩ = some (.int .i64 (x : Int))) (first
             | exact ⟨a3, b3, c3, d3, cx⟩
             | exact ⟨a4, b4, c4, d4, cy⟩) (first
           | (go_at_call 36; refine (HC _ (show Hid _ from HB3.out.drew)).mono ?_; rintro e w4 ⟨rfl, hb4⟩
              have HB4 : Hid (Below (w.heap.size + 2) W0 w4) := HB3.out.drew.trans (hb4.mono hsz)
              obtain ⟨a4, b4, c4, d4, -, hL4, -⟩ := HBW.out _ HB4.out
              have cy := (hb4.cell (p := ⟨gl, n, none⟩) hglz).trans cx
              clear hb4 hL4))
         all_goals
           go_wp2_with fail
           go_ret
           exact ⟨by rw [HR2.out]; rfl, (HBW.out _ HB4.out).2.2.2.2.2.2⟩
       · have hnN2 : ¬ (n : Int) < (N : Int) := by omega
         have hnN3 : (N : Int) <= (n : Int) := by omega
         have HR2 : Hid (R = -1) := by show _ = _; rw [HR.out, endsU, HPL.out]; simp only; rw [if_neg (by rw [<- HN.out]; omega)]; rfl
         go_wp2_with fail
         have HI3 := HIS 45 45 true m _ rfl (by omega) (by omega) h3 HB2
         refine HI3.mono ?_
         rintro e w3 ⟨rfl, hb3⟩
         have HB3 : Hid (Below (w.heap.size + 2) W0 w3) := HB2.out.trans (hb3.mono (by have := HB2.out.size; omega))
         obtain ⟨a3, b3, c3, d3, -, hL3, -⟩ := HBW.out _ HB3.out
         have hz3 : w.heap.size + 2 <= w3.heap.size := by have := HB3.out.size; omega
         clear hb3 a2 b2 c2 d2 HI3
         have hdc3 := d3
         go_wp2_with fail
         go_ret
         exact ⟨by rw [HR2.out]; rfl, (HBW.out _ HB3.out).2.2.2.2.2.2⟩
end Go.Proofs.YtcfbfdjmcabnkabGreat
