import Derived.Laws.IdiomStrings
import Derived.Test.YtcfbfdjmcabnkabGreatGV4
import Derived.Test.YtcfbfdjmcabnkabGreatGV5
import Derived.Test.YtcfbfdjmcabnkabGreatGQ
set_option maxRecDepth 100000
set_option maxHeartbeats 4000000
namespace Go.Proofs.YtcfbfdjmcabnkabGreat
open Go.RowKit Fw
open Go.Deep (BT)
set_option linter.unusedVariables false
section
variable (b g cap gs : Nat) (G : Gph) (K : Nat -> ByteArray) (f : ByteArray) (ns : List Nd) (F : Nat -> Nat -> Bool)
theorem write_or (t : Fm) (i wy li ri k st : Nat) (v : Value) (X : List UInt8) (w : World) (HA : Hid (Ct5 w b g cap ns.length i 43 wy li ri k)) (HR : Hid (Cw w b g cap gs G K f (begP G (fsOf f)) ns F v X))
   (HP : Hid (∀ W, Hid (Cw W b g cap gs G K f (begP G (fsOf f)) ns F v X) -> Calls Tryz.prog 94 #[.pointer (some ⟨b, 0, none⟩), .agg #[.int .u8 43, .int .u8 (wy : Int), .int .i64 (li : Int), .int .i64 (ri : Int), .int .i64 (k : Int)], .int .i64 (st : Int)] W fun e w' => WaOut t st b g cap gs G K f ns F v X W e w')) :
   Calls Tryz.prog 63 #[.pointer (some ⟨b, 0, none⟩), .int .i64 (i : Int), .int .i64 (st : Int)] w fun e w' => WaOut t st b g cap gs G K f ns F v X w e w' := by
 obtain ⟨hi, c52, n0, n1, n2, n3, n4⟩ := HA.out
 have hi2 : (i : Int) < (ns.length : Int) := by omega
 have hbl := HR.out.wy.lt
 have hgl := HR.out.nr.lt
 go_enter Tryz.func63, Tryz.ntmps63
 go_wp2_with fail
 refine (HP.out _ (show Hid _ from HR.out.alloc _)).mono ?_
 rintro e w1 ⟨rfl, v', c, h1, h2, h3, h4⟩
 go_wp2_with fail
 exact bodyPost_end (v := .tuple #[]) (by simp [results, Tryz.results63, go_sem]) rfl ⟨rfl, v', c, h1, h2, h3, h4.unbox⟩
theorem write_x (t : Fm) (i wy li ri k st : Nat) (v : Value) (X : List UInt8) (w : World) (HA : Hid (Ct5 w b g cap ns.length i 88 wy li ri k)) (HR : Hid (Cw w b g cap gs G K f (begP G (fsOf f)) ns F v X))
   (HP : Hid (∀ W, Hid (Cw W b g cap gs G K f (begP G (fsOf f)) ns F v X) -> Calls Tryz.prog 95 #[.pointer (some ⟨b, 0, none⟩), .agg #[.int .u8 88, .int .u8 (wy : Int), .int .i64 (li : Int), .int .i64 (ri : Int), .int .i64 (k : Int)], .int .i64 (st : Int)] W fun e w' => WaOut t st b g cap gs G K f ns F v X W e w')) :
   Calls Tryz.prog 63 #[.pointer (some ⟨b, 0, none⟩), .int .i64 (i : Int), .int .i64 (st : Int)] w fun e w' => WaOut t st b g cap gs G K f ns F v X w e w' := by
 obtain ⟨hi, c52, n0, n1, n2, n3, n4⟩ := HA.out
 have hi2 : (i : Int) < (ns.length : Int) := by omega
 have hbl := HR.out.wy.lt
 have hgl := HR.out.nr.lt
 go_enter Tryz.func63, Tryz.ntmps63
 go_wp2_with fail
 refine (HP.out _ (show Hid _ from HR.out.alloc _)).mono ?_
 rintro e w1 ⟨rfl, v', c, h1, h2, h3, h4⟩
 go_wp2_with fail
 exact bodyPost_end (v := .tuple #[]) (by simp [results, Tryz.results63, go_sem]) rfl ⟨rfl, v', c, h1, h2, h3, h4.unbox⟩
theorem write_u (t : Fm) (i wy li ri k st : Nat) (v : Value) (X : List UInt8) (w : World) (HA : Hid (Ct5 w b g cap ns.length i 85 wy li ri k)) (HR : Hid (Cw w b g cap gs G K f (begP G (fsOf f)) ns F v X))
   (HP : Hid (∀ W, Hid (Cw W b g cap gs G K f (begP G (fsOf f)) ns F v X) -> Calls Tryz.prog 96 #[.pointer (some ⟨b, 0, none⟩), .agg #[.int .u8 85, .int .u8 (wy : Int), .int .i64 (li : Int), .int .i64 (ri : Int), .int .i64 (k : Int)], .int .i64 (st : Int)] W fun e w' => WaOut t st b g cap gs G K f ns F v X W e w')) :
   Calls Tryz.prog 63 #[.pointer (some ⟨b, 0, none⟩), .int .i64 (i : Int), .int .i64 (st : Int)] w fun e w' => WaOut t st b g cap gs G K f ns F v X w e w' := by
 obtain ⟨hi, c52, n0, n1, n2, n3, n4⟩ := HA.out
 have hi2 : (i : Int) < (ns.length : Int) := by omega
 have hbl := HR.out.wy.lt
 have hgl := HR.out.nr.lt
 go_enter Tryz.func63, Tryz.ntmps63
 go_wp2_with fail
 refine (HP.out _ (show Hid _ from HR.out.alloc _)).mono ?_
 rintro e w1 ⟨rfl, v', c, h1, h2, h3, h4⟩
 go_wp2_with fail
 exact bodyPost_end (v := .tuple #[]) (by simp [results, Tryz.results63, go_sem]) rfl ⟨rfl, v', c, h1, h2, h3, h4.unbox⟩
theorem write_r (t : Fm) (i wy li ri k st : Nat) (v : Value) (X : List UInt8) (w : World) (HA : Hid (Ct5 w b g cap ns.length i 82 wy li ri k)) (HR : Hid (Cw w b g cap gs G K f (begP G (fsOf f)) ns F v X))
   (HP : Hid (∀ W, Hid (Cw W b g cap gs G K f (begP G (fsOf f)) ns F v X) -> Calls Tryz.prog 97 #[.pointer (some ⟨b, 0, none⟩), .agg #[.int .u8 82, .int .u8 (wy : Int), .int .i64 (li : Int), .int .i64 (ri : Int), .int .i64 (k : Int)], .int .i64 (st : Int)] W fun e w' => WaOut t st b g cap gs G K f ns F v X W e w')) :
   Calls Tryz.prog 63 #[.pointer (some ⟨b, 0, none⟩), .int .i64 (i : Int), .int .i64 (st : Int)] w fun e w' => WaOut t st b g cap gs G K f ns F v X w e w' := by
 obtain ⟨hi, c52, n0, n1, n2, n3, n4⟩ := HA.out
 have hi2 : (i : Int) < (ns.length : Int) := by omega
 have hbl := HR.out.wy.lt
 have hgl := HR.out.nr.lt
 go_enter Tryz.func63, Tryz.ntmps63
 go_wp2_with fail
 refine (HP.out _ (show Hid _ from HR.out.alloc _)).mono ?_
 rintro e w1 ⟨rfl, v', c, h1, h2, h3, h4⟩
 go_wp2_with fail
 exact bodyPost_end (v := .tuple #[]) (by simp [results, Tryz.results63, go_sem]) rfl ⟨rfl, v', c, h1, h2, h3, h4.unbox⟩
theorem write_and (l r : Fm) (u : Unit) (i wy li ri k st : Nat) (v : Value) (X : List UInt8) (w : World) (hst : st < G.n) (hX : X.length + bud (.node 38 wy u l r) ≤ 1000000000) (hl : holdsP G (fsOf f) l st = true) (hr : holdsP G (fsOf f) r st = true) (HA : Hid (Ct5 w b g cap ns.length i 38 wy li ri k)) (HL : Hid (WaAt l li b g cap gs G K f ns F)) (HRR : Hid (WaAt r ri b g cap gs G K f ns F)) (HR : Hid (Cw w b g cap gs G K f (begP G (fsOf f)) ns F v X)) :
   Calls Tryz.prog 63 #[.pointer (some ⟨b, 0, none⟩), .int .i64 (i : Int), .int .i64 (st : Int)] w fun e w' => WaOut (.node 38 wy u l r) st b g cap gs G K f ns F v X w e w' := by
 obtain ⟨hi, c52, n0, n1, n2, n3, n4⟩ := HA.out
 have hi2 : (i : Int) < (ns.length : Int) := by omega
 have hbl := HR.out.wy.lt
 have hgl := HR.out.nr.lt
 have eb : w.heap.size ≠ b := by omega
 have HV0 : Hid (v.ownBlock ≠ some w.heap.size) := HR.out.ne (Nat.le_refl _)
 have HHL : Hid (holdsP G (fsOf f) l st = true) := hl
 have HHR : Hid (holdsP G (fsOf f) r st = true) := hr
 rw [bud_and] at hX
 clear hl hr
 go_enter Tryz.func63, Tryz.ntmps63
 go_wp2_with fail
 refine (putN b g cap gs G K f (begP G (fsOf f)) ns F 38 38 v X _ rfl (by omega) (by omega) (show Hid _ from HR.out.alloc _)).mono ?_
 rintro e w1 ⟨rfl, v1, hw1, hk1⟩
 have HW1 : Hid (Cw w1 b g cap gs G K f (begP G (fsOf f)) ns F v1 (X ++ [b8 38])) := hw1
 have m2 : w1.cell? ⟨w.heap.size, 2, none⟩ = some (.int .i64 (li : Int)) := by rw [hk1.cell (by simp) eb HV0.out]; simp
 have m3 : w1.cell? ⟨w.heap.size, 3, none⟩ = some (.int .i64 (ri : Int)) := by rw [hk1.cell (by simp) eb HV0.out]; simp
 have HV1 : Hid (v1.ownBlock ≠ some w.heap.size) := own_ne hk1 (by simp) HV0.out
 have HK1 : Hid (Kp b v v1 w w1) := hk1.unbox
 have hlt1 : w.heap.size < w1.heap.size := by have := hk1.size; simp at this; omega
 clear hw1 hk1
 go_wp2_with fail
 refine (HL.out _ st v1 _ HW1 hst HHL.out (by simp only [List.length_append, List.length_cons, List.length_nil]; omega)).mono ?_
 rintro e w2 ⟨rfl, v2, c1, hcrt1, hcb1, hw2, hk2⟩
 have HC1 : Hid (Crt G (fsOf f) l st c1) := hcrt1
 have HW2 : Hid (Cw w2 b g cap gs G K f (begP G (fsOf f)) ns F v2 (X ++ [b8 38] ++ c1)) := hw2
 have p3 : w2.cell? ⟨w.heap.size, 3, none⟩ = some (.int .i64 (ri : Int)) := (hk2.cell hlt1 eb HV1.out 3).trans m3
 have HK2 : Hid (Kp b v v2 w w2) := HK1.out.trans hk2
 clear hcrt1 hw2 hk2
 go_wp2_with fail
 refine (HRR.out _ st v2 _ HW2 hst HHR.out (by simp only [List.length_append, List.length_cons, List.length_nil]; omega)).mono ?_
 rintro e w3 ⟨rfl, v3, c2, hcrt2, hcb2, hw3, hk3⟩
 go_wp2_with fail
 refine bodyPost_end (v := .tuple #[]) (by simp [results, Tryz.results63, go_sem]) rfl ⟨rfl, v3, 38 :: (c1 ++ c2), crt_and HC1.out hcrt2, by rw [bud_and]; simp only [List.length_append, List.length_cons]; omega, ?_, HK2.out.trans hk3⟩
 have : X ++ 38 :: (c1 ++ c2) = X ++ [b8 38] ++ c1 ++ c2 := by simp; rfl
 rw [this]
 exact hw3
theorem write_leaf (t : Fm) (i sg wy li ri k st : Nat) (v : Value) (X : List UInt8) (w : World) (hX : X.length + 1 ≤ 1000000000) (hc : Crt G (fsOf f) t st [46]) (hb : 1 ≤ bud t) (b38 : ((sg : Int) == 38) = false) (b43 : ((sg : Int) == 43) = false) (b88 : ((sg : Int) == 88) = false) (b85 : ((sg : Int) == 85) = false) (b82 : ((sg : Int) == 82) = false) (HA : Hid (Ct5 w b g cap ns.length i sg wy li ri k)) (HR : Hid (Cw w b g cap gs G K f (begP G (fsOf f)) ns F v X)) :
   Calls Tryz.prog 63 #[.pointer (some ⟨b, 0, none⟩), .int .i64 (i : Int), .int .i64 (st : Int)] w fun e w' => WaOut t st b g cap gs G K f ns F v X w e w' := by
 obtain ⟨hi, c52, n0, n1, n2, n3, n4⟩ := HA.out
 have hi2 : (i : Int) < (ns.length : Int) := by omega
 have hbl := HR.out.wy.lt
 have hgl := HR.out.nr.lt
 have HC : Hid (Crt G (fsOf f) t st [46]) := hc
 clear hc
 go_enter Tryz.func63, Tryz.ntmps63
 go_wp2_with fail
 refine (putN b g cap gs G K f (begP G (fsOf f)) ns F 46 46 v X _ rfl (by omega) (by omega) (show Hid _ from HR.out.alloc _)).mono ?_
 rintro e w1 ⟨rfl, v1, hw1, hk1⟩
 go_wp2_with fail
 exact bodyPost_end (v := .tuple #[]) (by simp [results, Tryz.results63, go_sem]) rfl ⟨rfl, v1, [46], HC.out, by simpa using hb, hw1, hk1.unbox⟩
theorem write_any (ok : G.ok) (hf : f.size <= 2) (hn : G.n <= 6) (hF : ∀ (t : Fm) i, good t -> Rep ns t i -> i < ns.length ∧ ∀ j, F i j = holdsP G (fsOf f) t j) : ∀ (t : Fm), good t -> shw t -> ∀ i, Rep ns t i -> WaAt t i b g cap gs G K f ns F := by
 intro t
 induction t with
 | nil => intro h; exact absurd h (by simp [good])
 | node sg wy u l r ihl ihr =>
   intro hg h i hrep W st v X hcr hst hh hX
   cases u
   have hrep0 := hrep
   obtain ⟨li, ri, hnd, hl, hr⟩ := hrep
   have hat := hcr.out.at hnd
   rcases good_cases hg with ⟨c, e, hc, hT⟩ | ⟨x, e, hx, hT⟩ | ⟨s', x, y, e, hs', hx, hy, hT⟩ | ⟨z, x, e, hv, hx, hT⟩ | ⟨s', z, x, y, e, hs', hv, hx, hy, hT⟩
   · injection e with e3 e0 _ e1 e2
     subst e3 e0 e1 e2
     have hc' := hc
     simp only [isAtom, decide_eq_true_eq] at hc'
     have h5 : sg ≠ 38 ∧ sg ≠ 43 ∧ sg ≠ 88 ∧ sg ≠ 85 ∧ sg ≠ 82 := by omega
     rw [bud_leaf h5] at hX
     refine write_leaf b g cap gs G K f ns F _ i sg 0 li ri _ st v X W hX (crt_leaf h5 ?_) (by rw [bud_leaf h5]; exact Nat.le_refl _) (by rw [beq_eq_false_iff_ne]; omega) (by rw [beq_eq_false_iff_ne]; omega) (by rw [beq_eq_false_iff_ne]; omega) (by rw [beq_eq_false_iff_ne]; omega) (by rw [beq_eq_false_iff_ne]; omega) hat hcr
     rw [soB_atom hc]
     rw [holdsP, if_neg (by omega), if_neg (by omega), if_neg (by omega), if_neg (by omega)] at hh
     by_cases h84 : sg = 84
     · simp [h84]
     · rw [if_neg h84] at hh
       rw [hh, Bool.or_true]
   · injection e with e3 e0 _ e1 e2
     subst e3 e0 e1 e2
     rw [shw, if_pos rfl] at h
     obtain ⟨c, hc, rfl⟩ := h
     have hc' := hc
     simp only [isAtom, decide_eq_true_eq] at hc'
     have h5 : (33 : Nat) ≠ 38 ∧ (33 : Nat) ≠ 43 ∧ (33 : Nat) ≠ 88 ∧ (33 : Nat) ≠ 85 ∧ (33 : Nat) ≠ 82 := by omega
     rw [bud_leaf h5] at hX
     refine write_leaf b g cap gs G K f ns F _ i 33 0 li ri _ st v X W hX (crt_leaf h5 ?_) (by rw [bud_leaf h5]; exact Nat.le_refl _) (by decide) (by decide) (by decide) (by decide) (by decide) hat hcr
     have e1 : soB G (.node 33 0 () (.node c 0 () .nil .nil) .nil) st = !(decide (c = 84) || G.m st c) := by rw [soB, if_pos rfl, soB_atom hc]
     rw [e1]
     rw [holdsP, if_pos rfl, holdsP, if_neg (by omega), if_neg (by omega), if_neg (by omega), if_neg (by omega)] at hh
     by_cases h84 : c = 84
     · simp [h84] at hh
     · rw [if_neg h84] at hh
       simp [h84]
       simpa using hh
   · injection e with e3 e0 _ e1 e2
     subst e3 e0 e1 e2
     rw [shw, if_neg (by omega), if_pos hs'] at h
     have hFl := hF l li hx hl
     rcases hs' with rfl | rfl
     · rw [holdsP, if_neg (by omega), if_pos rfl, Bool.and_eq_true] at hh
       exact write_and b g cap gs G K f ns F l r () i 0 li ri _ st v X W hst hX hh.1 hh.2 hat (ihl hx h.1 li hl) (ihr hy h.2 ri hr) hcr
     · rw [holdsP, if_neg (by omega), if_neg (by omega), if_pos rfl, Bool.or_eq_true] at hh
       exact write_or b g cap gs G K f ns F _ i 0 li ri _ st v X W hat hcr (fun W' h' => one_W b g cap gs G K f ns F l r 0 li ri _ st () v X W' hst hFl.1 hFl.2 hh hX (ihl hx h.1 li hl) (ihr hy h.2 ri hr) h')
   · injection e with e3 e0 _ e1 e2
     subst e3 e0 e1 e2
     rw [shw, if_neg (by omega), if_neg (by omega), if_pos rfl] at h
     have hFl := hF l li hx hl
     rw [holdsP, if_neg (by omega), if_neg (by omega), if_neg (by omega), if_pos (by omega), if_neg (by omega)] at hh
     unfold someP at hh
     rw [if_pos rfl] at hh
     exact write_x b g cap gs G K f ns F _ i wy li ri _ st v X W hat hcr (fun W' h' => next_W b g cap gs G K f ns F l .nil wy li ri _ st () v X W' ok hf hst hFl.1 hFl.2 hh hX (ihl hx h.2 li hl) h')
   · injection e with e3 e0 _ e1 e2
     subst e3 e0 e1 e2
     rw [shw, if_neg (by omega), if_neg (by omega), if_neg (by omega), if_pos hs'] at h
     have hFl := hF l li hx hl
     have hFr := hF r ri hy hr
     rw [holdsP, if_neg (by omega), if_neg (by omega), if_neg (by omega), if_pos (by omega), if_neg (by omega)] at hh
     unfold someP at hh
     rw [if_neg (by omega)] at hh
     rcases hs' with rfl | rfl
     · rw [if_pos rfl] at hh
       exact write_u b g cap gs G K f ns F _ i wy li ri _ st v X W hat hcr (fun W' h' => until_W b g cap gs G K f ns F l r wy li ri _ st () v X W' ok hf hst hFl.1 hFr.1 hFl.2 hFr.2 hh hX (ihl hx h.2.1 li hl) (ihr hy h.2.2 ri hr) h')
     · rw [if_neg (by omega)] at hh
       cases hs : rea G.e (holdsP G (fsOf f) r) (fun j => (holdsP G (fsOf f) l j && holdsP G (fsOf f) r j) && begP G (fsOf f) j) 5 st with
       | true => exact write_r b g cap gs G K f ns F _ i wy li ri _ st v X W hat hcr (fun W' h' => release1_W b g cap gs G K f ns F l r wy li ri _ st () v X W' ok hf hst hFl.1 hFr.1 hFl.2 hFr.2 hs hX (ihl hx h.2.1 li hl) (ihr hy h.2.2 ri hr) h')
       | false =>
         rw [hs, Bool.false_or] at hh
         exact write_r b g cap gs G K f ns F _ i wy li ri _ st v X W hat hcr (fun W' h' => release0_W b g cap gs G K f ns F l r wy li ri _ st () v X W' ok hf hst hFl.1 hFr.1 hFl.2 hFr.2 hs hh hX (ihl hx h.2.1 li hl) (ihr hy h.2.2 ri hr) h')
end
theorem Tryz.size124 : (Tryz.prog.info? 124).map (·.size) = some 55 := by kernel_rfl
theorem built124 (c : Nat) (M : Nat -> Nat -> Bool) (K : Nat -> ByteArray) (f : ByteArray) (B : Nat -> Bool) (a a2 : Option Addr) (m cap m2 cap2 : Nat) : Tryz.prog.built 124 [(0, .agg (cells52 c M K f B).toArray), (1, .slice a m cap), (2, .slice a2 m2 cap2)] = some (cells52 c M K f B ++ ([.slice a m cap, .slice a2 m2 cap2, .slice none 0 0] : List Value)).toArray := by kernel_rfl
theorem yldW {ops : Array Oper} {S : World → Prop} {op : Oper} {a : Act} (hw : Region.wanted op (yielded ops a.tmps) = true) (x y z : Operand) (ho : op.op = .build 124 #[(0, x), (1, y), (2, z)])
   (C : List Value) (hC : ∃ c M K f B, C = cells52 c M K f B) (ad ae : Option Addr) (m cap m2 cap2 : Nat) (hx : a.eval x = .agg C.toArray) (hy : a.eval y = .slice ad m cap) (hz : a.eval z = .slice ae m2 cap2) :
   YieldsIf Tryz.prog ops S op (.agg (C ++ ([.slice ad m cap, .slice ae m2 cap2, .slice none 0 0] : List Value)).toArray) a := by
 obtain ⟨c', M, K, f, B, rfl⟩ := hC
 have hv : ((#[(0, x), (1, y), (2, z)] : Array (Nat × Operand)).map fun (i, x) => (i, a.eval x)).toList = [(0, .agg (cells52 c' M K f B).toArray), (1, .slice ad m cap), (2, .slice ae m2 cap2)] := by simp [hx, hy, hz]
 refine .inl ⟨hw, fun w _ => ?_⟩
 unfold execOp
 simp only [ho, Sem.run_bind, run_build w 124 _ _ (by rw [hv]; exact built124 _ _ _ _ _ _ _ _ _ _ _), Result.andThen_ok]
 rfl
theorem own_string {w : World} {base : Nat} {v : Value} {X : List UInt8} (h : w.ownsRow base 5 1 v X.length (u8s X)) : (convert 122 9 v).run Tryz.prog w = .ok (.string (bs X)) w := by
 rcases h.2 with ⟨rfl, h0⟩ | ⟨g, cap, cur, rfl, _, hh, _, _, _, ht⟩
 · have : X = [] := List.length_eq_zero_iff.1 h0
   subst this
   rw [run_convert_bytes_string w 122 9 5 _ 0 0 Tryz.underlying122 Tryz.underlying5 Tryz.underlying9]
   simp [Conv.bytesToString]
   rfl
 · refine run_convert_bytes_back w 122 9 5 ⟨g, 0, none⟩ cap X Tryz.underlying122 Tryz.underlying5 Tryz.underlying9 fun j hj => ?_
   have hadd : (⟨g, 0, none⟩ : Addr).add j = ⟨g, j, none⟩ := by unfold Addr.add; split <;> simp_all
   rw [hadd, cell_of_row w g j cur 5 (0, 0) hh]
   rw [Nat.mul_one] at ht
   have h1 : (u8s X)[j]? = some (.int .u8 (X[j].toNat : Int)) := by simp [u8s, hj]
   rw [<- ht, List.getElem?_take, if_pos hj] at h1
   simpa using h1
theorem claimShown_is (G : Gph) (K : Nat → ByteArray) (f : ByteArray) (t : Fm) (cb g2 cap2 kk st : Nat) (ms : List Nd) (w : World) (ok : G.ok) (hn6 : G.n ≤ 6) (ks : ∀ i, (K i).size ≤ 1000) (mm : ∀ i c, i < 6 → (G.m i c = true ↔ ∃ d ∈ (K i).data.toList, d.toNat = c))
   (hf : f.size <= 2) (hst : st < G.n) (hg : good t) (hsh : shw t) (hr : Rep ms t kk) (hcl : Clo ms) (hml : ms.length <= 1000) (hbt : bud t <= 900000000) (HX : Hid (Cx w cb (cells52 G.n G.e K f (begP G (fsOf f))) g2 cap2 kk st ms)) :
   Calls Tryz.prog 37 #[.pointer (some ⟨cb, 0, none⟩)] w fun e w' => Below w.heap.size w w' ∧ ((holdsP G (fsOf f) t st = false ∧ e = .returned (.tuple #[.string ByteArray.empty, .int .i64 9])) ∨ (holdsP G (fsOf f) t st = true ∧ ∃ c, Crt G (fsOf f) t st c ∧ e = .returned (.tuple #[.string (bs c), .int .i64 0]))) := by
 have hFF : ∀ (t : Fm) i, good t -> Rep ms t i -> i < ms.length ∧ ∀ j, vals G (fsOf f) ms ms.length i j = holdsP G (fsOf f) t j := fun t i hg hr => ⟨(hr.lt hg).1, fun j => congrFun (vals_is hcl t hg i ms.length hr (hr.lt hg).1) j⟩
 have HHO := fun W (h : Hid (Wy W cb 1 G K f (begP G (fsOf f)))) (h2 : Hid (Nr W g2 ms)) => holdings_P cb 1 g2 ms.length cap2 G K f ms hcl rfl hml (by omega) W h h2
 have HWY : Hid (∀ (W : World) (b o : Nat), b < W.heap.size -> W.rangeAt b o (cells52 G.n G.e K f (begP G (fsOf f))) -> Wy W b o G K f (begP G (fsOf f))) := fun W b o h1 h2 => wy_of h1 hn6 ks mm h2
 have HTS : Hid (∀ j, vals G (fsOf f) ms ms.length kk j = holdsP G (fsOf f) t j) := (hFF t kk hg hr).2
 have hkl : kk < ms.length := (hr.lt hg).1
 obtain ⟨F, hFe⟩ : ∃ F, F = vals G (fsOf f) ms ms.length := ⟨_, rfl⟩
 rw [<- hFe] at hFF HHO HTS
 clear hFe
 have HWA := fun b gs => write_any b g2 cap2 gs G K f ms F ok hf hn6 hFF t hg hsh kk hr
 clear hFF hcl ks mm
 obtain ⟨C2, hC2⟩ : ∃ C2, C2 = cells52 G.n G.e K f (begP G (fsOf f)) := ⟨_, rfl⟩
 have HC2 : Hid (∃ c M K f B, C2 = cells52 c M K f B) := ⟨_, _, _, _, _, hC2⟩
 have hC2l : C2.length = 52 := by rw [hC2]; exact cells52_len _ _ _ _ _
 have HC2o : Hid (C2.toArray.all (·.oneCell') = true) := by rw [hC2]; exact cells52_one _ _ _ _ _
 rw [<- hC2] at HX HWY
 clear hC2
 have st6 : st < 6 := by omega
 have s0 : (0 : Int) <= (st : Int) := by omega
 have s1 : (st : Int) < 6 := by omega
 have k0 : (0 : Int) <= (kk : Int) := by omega
 have k1 : (kk : Int) < (ms.length : Int) := by omega
 have c55 := HX.out.c55
 have hlt := HX.out.lt
 have hgl := HX.out.nr.lt
 have HWYw : Hid (Wy w cb 1 G K f (begP G (fsOf f))) := HWY.out w cb 1 hlt HX.out.wr
 go_enter Tryz.func37, Tryz.ntmps37
 go_wp2_with fail
 go_region_held3 (fun w' => w'.cell? ⟨cb, 55, none⟩ = some (.slice (some ⟨g2, 0, none⟩) ms.length cap2)) (first
     | exact d55
     | exact c55) (first
   | (go_at_call 50; refine (HHO _ (show Hid _ from HWYw.out.drew) (show Hid _ from HX.out.nr.below (Below.refl _ _).drew hgl)).mono ?_; rintro e w1 ⟨hb1, rfl, htab⟩
      have hb01 : Below w.heap.size w w1 := Below.dr hb1
      have HT1 : Hid (Tab w1 w.heap.size ms.length F) := htab
      have d55 : w1.cell? ⟨cb, 55, none⟩ = some (.slice (some ⟨g2, 0, none⟩) ms.length cap2) := (hb01.cell (p := ⟨cb, 55, none⟩) hlt).trans c55
      clear htab hb1))
 have d56 : w1.cell? ⟨cb, 56, none⟩ = some (.int .i64 (kk : Int)) := (hb01.cell (p := ⟨cb, 56, none⟩) hlt).trans HX.out.c56
 have d57 : w1.cell? ⟨cb, 57, none⟩ = some (.int .i64 (st : Int)) := (hb01.cell (p := ⟨cb, 57, none⟩) hlt).trans HX.out.c57
 have HWR1 : Hid (w1.rangeAt cb 1 C2) := fun j v hv => (hb01.cell (p := ⟨cb, 1 + j, none⟩) hlt).trans (HX.out.wr j v hv)
 have HN1 : Hid (Nr w1 g2 ms) := HX.out.nr.below hb01 hgl
 have cst := HT1.out.c kk st hkl st6
 rw [HTS.out st] at cst
 obtain ⟨y, hy⟩ : ∃ y, holdsP G (fsOf f) t st = y := ⟨_, rfl⟩
 have HY : Hid (holdsP G (fsOf f) t st = y) := hy
 rw [hy] at cst
 clear hy
 have h01 : w.heap.size < w1.heap.size := HT1.out.lt
 cases y with
 | false =>
   go_wp2_with fail
   go_region
   all_goals
     go_wp2_with fail
     go_ret2
     exact ⟨hb01.drew, .inl ⟨HY.out, rfl⟩⟩
 | true =>
   go_wp2_with fail
   go_region
   all_goals
     go_wp2_with fail
     have c56 : w1.drew.cell? ⟨cb, 56, none⟩ = some (.int .i64 (kk : Int)) := d56
     have c57 : w1.drew.cell? ⟨cb, 57, none⟩ = some (.int .i64 (st : Int)) := d57
     have e55 : w1.drew.cell? ⟨cb, 55, none⟩ = some (.slice (some ⟨g2, 0, none⟩) ms.length cap2) := d55
     have HWR : Hid (w1.drew.rangeAt cb 1 C2) := HWR1.out
     have HN2 : Hid (Nr w1.drew g2 ms) := HN1.out.below (Below.refl _ _).drew HN1.out.lt
     have HT2 : Hid (Tab w1.drew w.heap.size ms.length F) := HT1.out.below (Below.refl _ _).drew HT1.out.lt
     have hb02 : Below w.heap.size w w1.drew := hb01.drew
     have h02 : w.heap.size < w1.drew.heap.size := h01
     clear d55 d56 d57 HWR1 HN1 HT1 hb01 h01 cst c55
     generalize w1.drew = w2 at c56 c57 e55 HWR HN2 HT2 hb02 h02 ⊢
     have hlt2 : cb < w2.heap.size := by omega
     refine wp_region_held_drew (S := fun w' => w'.cell? ⟨cb, 55, none⟩ = some (.slice (some ⟨g2, 0, none⟩) ms.length cap2) ∧ w'.rangeAt cb 1 C2) (by kernel_rfl) ⟨e55, HWR.out⟩ (fun hHeld => ?_)
     refine wpAnyH_take (i := 0) (v := ?v1) rfl (by kernel_rfl) (by kernel_rfl) (by kernel_rfl) (fun _ _ _ h => h) (Or.inl ⟨by rfl, ?hy1⟩) hHeld ?rest1
     case hy1 =>
       intro W hW
       obtain ⟨hW1, hW2⟩ := hW
       go_simp
       try with_reducible rfl
     simp only [Act.put]
     refine wpAnyH_take (i := 1) (v := ?v2) rfl (by kernel_rfl) (by kernel_rfl) (by kernel_rfl) (fun _ _ _ h => h) (Or.inl ⟨by rfl, ?hy2⟩) hHeld ?rest2
     case hy2 =>
       intro W hW
       obtain ⟨hW1, hW2⟩ := hW
       go_simp
       try with_reducible rfl
     simp only [Act.put]
     refine wpAnyH_take (i := 2) (v := ?v3) rfl (by kernel_rfl) (by kernel_rfl) (by kernel_rfl) (fun _ _ _ h => h) (Or.inl ⟨by rfl, ?hy3⟩) hHeld ?rest3
     case hy3 =>
       intro W hW
       obtain ⟨hW1, hW2⟩ := hW
       go_simp
       try with_reducible rfl
     simp only [Act.put]
     refine wpAnyH_take (i := 3) rfl (by kernel_rfl) (by kernel_rfl) (by kernel_rfl) (fun _ _ _ h => h) (yld52 cb 1 C2 hC2l (by rfl) _ (by rfl) (by rfl) (fun _ h => h.2)) hHeld ?_
     simp only [Act.put]
     refine wpAnyH_take (i := 4) (v := ?v5) rfl (by kernel_rfl) (by kernel_rfl) (by kernel_rfl) (fun _ _ _ h => h) (Or.inl ⟨by rfl, ?hy5⟩) hHeld ?rest5
     case hy5 =>
       intro W hW
       obtain ⟨hW1, hW2⟩ := hW
       go_simp
       try with_reducible rfl
     simp only [Act.put]
     refine wpAnyH_take (i := 5) (v := ?v6) rfl (by kernel_rfl) (by kernel_rfl) (by kernel_rfl) (fun _ _ _ h => h) (Or.inl ⟨by rfl, ?hy6⟩) hHeld ?rest6
     case hy6 =>
       intro W hW
       obtain ⟨hW1, hW2⟩ := hW
       go_simp
       try with_reducible rfl
     simp only [Act.put]
     refine wpAnyH_take (i := 6) (v := ?v7) rfl (by kernel_rfl) (by kernel_rfl) (by kernel_rfl) (fun _ _ _ h => h) (Or.inl ⟨by rfl, ?hy7⟩) hHeld ?rest7
     case hy7 =>
       intro W hW
       obtain ⟨hW1, hW2⟩ := hW
       go_simp
       try with_reducible rfl
     simp only [Act.put]
     refine wpAnyH_take (i := 7) (v := ?v8) rfl (by kernel_rfl) (by kernel_rfl) (by kernel_rfl) (fun _ _ _ h => h) (Or.inl ⟨by rfl, ?hy8⟩) hHeld ?rest8
     case hy8 =>
       intro W hW
       obtain ⟨hW1, hW2⟩ := hW
       go_simp
       try with_reducible rfl
     simp only [Act.put]
     refine wpAnyH_take (i := 8) (v := ?v9) rfl (by kernel_rfl) (by kernel_rfl) (by kernel_rfl) (fun _ _ _ h => h) (Or.inl ⟨by rfl, ?hy9⟩) hHeld ?rest9
     case hy9 =>
       intro W hW
       obtain ⟨hW1, hW2⟩ := hW
       go_simp
       try with_reducible rfl
     simp only [Act.put]
     refine wpAnyH_take (i := 9) (v := ?v10) rfl (by kernel_rfl) (by kernel_rfl) (by kernel_rfl) (fun _ _ _ h => h) (Or.inl ⟨by rfl, ?hy10⟩) hHeld ?rest10
     case hy10 =>
       intro W hW
       obtain ⟨hW1, hW2⟩ := hW
       go_simp
       try with_reducible rfl
     simp only [Act.put]
     refine wpAnyH_take (i := 10) (v := .agg (C2 ++ ([.slice (some ⟨g2, 0, none⟩) ms.length cap2, .slice (some ⟨w.heap.size, 0, none⟩) ms.length ms.length, .slice none 0 0] : List Value)).toArray) rfl (by kernel_rfl) (by kernel_rfl) (by kernel_rfl) (fun _ _ _ h => h) ?hyb hHeld ?_
     case hyb =>
       refine yldW ?_ (.tmp 32) (.tmp 37) (.tmp 38) ?_ C2 HC2.out (some ⟨g2, 0, none⟩) (some ⟨w.heap.size, 0, none⟩) ms.length cap2 ms.length ms.length ?_ ?_ ?_
       · rfl
       · rfl
       · go_simp
       · go_simp
       · go_simp
     refine wpAnyH_ready (rs := [11]) (by kernel_rfl) (by simp) ?_
     refine AllReadyH.cons rfl (fun KK hKK => ?_) AllReadyH.nil
     go_simp
     refine alloc_any (n := 55) (M := fun W => KK _ W.drew) rfl ?_
     intro W hbW hzW htW hfW
     have hltR : w2.heap.size < W.heap.size := by omega
     have d55 : W.cell? ⟨cb, 55, none⟩ = some (.slice (some ⟨g2, 0, none⟩) ms.length cap2) := (hbW.cell (p := ⟨cb, 55, none⟩) hlt2).trans e55
     have d56 : W.cell? ⟨cb, 56, none⟩ = some (.int .i64 (kk : Int)) := (hbW.cell (p := ⟨cb, 56, none⟩) hlt2).trans c56
     have d57 : W.cell? ⟨cb, 57, none⟩ = some (.int .i64 (st : Int)) := (hbW.cell (p := ⟨cb, 57, none⟩) hlt2).trans c57
     have HWR1 : Hid (W.rangeAt cb 1 C2) := fun j v hv => (hbW.cell (p := ⟨cb, 1 + j, none⟩) hlt2).trans (HWR.out j v hv)
     have HN3 : Hid (Nr W g2 ms) := HN2.out.below hbW HN2.out.lt
     have HT3 : Hid (Tab W w.heap.size ms.length F) := HT2.out.below hbW HT2.out.lt
     refine hKK.out _ _ ⟨d55, HWR1.out⟩ (fun hHeld => ?_)
     clear hKK KK
     refine wpAnyH_ready (rs := [12]) (by kernel_rfl) (by simp) ?_
     refine AllReadyH.cons rfl (fun KK hKK => ?_) AllReadyH.nil
     rw [if_pos (by rfl)]
     have hL5 : (C2 ++ ([.slice (some ⟨g2, 0, none⟩) ms.length cap2, .slice (some ⟨w.heap.size, 0, none⟩) ms.length ms.length, .slice none 0 0] : List Value)).length = 55 := by simp [hC2l]
     have hO5 : (C2 ++ ([.slice (some ⟨g2, 0, none⟩) ms.length cap2, .slice (some ⟨w.heap.size, 0, none⟩) ms.length ms.length, .slice none 0 0] : List Value)).toArray.all (·.oneCell') = true := by
       refine all_oneCell_toArray fun v hv => ?_
       simp only [List.mem_cons, List.mem_append, List.not_mem_nil, or_false] at hv
       rcases hv with hv | rfl | rfl | rfl
       · exact (Array.all_eq_true_iff_forall_mem.1 HC2o.out) v (by simpa using hv)
       · rfl
       · rfl
       · rfl
     have HCE : Hid (∀ W : World, W.rangeAt w2.heap.size 0 (C2 ++ ([.slice (some ⟨g2, 0, none⟩) ms.length cap2, .slice (some ⟨w.heap.size, 0, none⟩) ms.length ms.length, .slice none 0 0] : List Value)) -> W.rangeAt w2.heap.size 0 C2 ∧ W.cell? ⟨w2.heap.size, 52, none⟩ = some (.slice (some ⟨g2, 0, none⟩) ms.length cap2) ∧ W.cell? ⟨w2.heap.size, 53, none⟩ = some (.slice (some ⟨w.heap.size, 0, none⟩) ms.length ms.length) ∧ W.cell? ⟨w2.heap.size, 54, none⟩ = some (.slice none 0 0)) := by
       intro W h
       refine ⟨fun j v hv => h j v (by rw [List.getElem?_append_left (List.getElem?_eq_some_iff.1 hv).1]; exact hv), h 52 _ ?_, h 53 _ ?_, h 54 _ ?_⟩
       all_goals rw [List.getElem?_append_right (by rw [hC2l]; omega), hC2l]; rfl
     obtain ⟨C5, hC5⟩ : ∃ C5, C5 = (C2 ++ ([.slice (some ⟨g2, 0, none⟩) ms.length cap2, .slice (some ⟨w.heap.size, 0, none⟩) ms.length ms.length, .slice none 0 0] : List Value)) := ⟨_, rfl⟩
     rw [<- hC5] at hL5 hO5 HCE
     have hS5 : C5.toArray.size = 55 := by simp [hL5]
     refine wp_store_mid 124 _ _ rfl w2.heap.size 0 C5.toArray rfl (by rw [hC5]; go_simp) (by rw [hS5]; exact htW) (by rw [hS5]; exact Tryz.size124) hO5 ?_
     have hr6 : (W.drew.setCells w2.heap.size 0 C5.toArray.toList).rangeAt w2.heap.size 0 C5.toArray.toList := World.rangeAt_setCells_same _ _ _ _ (by simpa [hL5] using htW)
     have hb6 : Below w2.heap.size W.drew (W.drew.setCells w2.heap.size 0 C5.toArray.toList) := below_setCellsT _ _ _ _
     have hk6 := block_setCellsT w2.heap.size C5.toArray.toList 0 W.drew
     have hz6 := size_setCellsT w2.heap.size C5.toArray.toList 0 W.drew
     have hf6 : ∀ p, (W.drew.setCells w2.heap.size 0 C5.toArray.toList).frozen? p = W.drew.frozen? p := fun p => World.frozen?_setCells _ _ _ _ _
     generalize W.drew.setCells w2.heap.size 0 C5.toArray.toList = w6 at hr6 hb6 hk6 hz6 hf6 ⊢
     have hlt6 : w2.heap.size < w6.heap.size := by rw [hz6]; exact hltR
     obtain ⟨q1, q2, q3, q4⟩ := HCE.out w6 (by simpa using hr6)
     have hg2l : g2 < w2.heap.size := HN2.out.lt
     have hneg : g2 ≠ w2.heap.size := by omega
     have hnes : w.heap.size ≠ w2.heap.size := by omega
     have hnec : cb ≠ w2.heap.size := by omega
     have hbel6 : Below w.heap.size w w6 := hb02.trans ((hbW.drew.trans hb6).mono (by omega))
     have HC6 : Hid (Cw w6 w2.heap.size g2 cap2 w.heap.size G K f (begP G (fsOf f)) ms F (.slice none 0 0) []) := ⟨HWY.out w6 _ 0 hlt6 q1, q2, q3, q4, (hf6 _).trans (hfW _), ⟨Nat.lt_of_lt_of_le HN3.out.lt hb6.size, fun i x hx j u hu => (World.cell?_of_block (w := W) (hk6 g2 hneg)).trans (HN3.out.c i x hx j u hu)⟩, hg2l, ⟨Nat.lt_of_lt_of_le HT3.out.lt hb6.size, fun i j hi hj => (World.cell?_of_block (w := W) (hk6 _ hnes)).trans (HT3.out.c i j hi hj), fun o ho => (hf6 _).trans (HT3.out.z o ho)⟩, h02, World.ownsRow_nil _ _ _ _⟩
     have s55 : w6.cell? ⟨cb, 55, none⟩ = some (.slice (some ⟨g2, 0, none⟩) ms.length cap2) := (World.cell?_of_block (w := W) (hk6 cb hnec)).trans d55
     have s56 : w6.cell? ⟨cb, 56, none⟩ = some (.int .i64 (kk : Int)) := (World.cell?_of_block (w := W) (hk6 cb hnec)).trans d56
     have s57 : w6.cell? ⟨cb, 57, none⟩ = some (.int .i64 (st : Int)) := (World.cell?_of_block (w := W) (hk6 cb hnec)).trans d57
     have hcb6 : cb < w6.heap.size := by omega
     refine hKK.out _ _ ⟨s55, fun j v hv => (World.cell?_of_block (w := W) (hk6 cb hnec)).trans (HWR1.out j v hv)⟩ (fun hHeld => ?_)
     clear hKK KK hHeld hr6 hk6 hz6 hf6 q1 q2 q3 q4 d55 d56 d57 HWR1 HN3 HT3 HWR HCE hO5 hS5 hL5 hC5 e55 c56 c57 htW hfW hzW hltR HN2 HT2
     refine wpAnyH_done (by kernel_rfl) ?_ _
     simp only [Act.put, List.getElem_toArray, List.getElem_cons_succ, List.getElem_cons_zero]
     clear hb6 hbW HWY HC2 HC2o
     have HWB := HWA w2.heap.size w.heap.size
     go_wp2_with fail
     go_region_held3 (fun w' => w'.cell? ⟨cb, 56, none⟩ = some (.int .i64 (kk : Int)) ∧ w'.cell? ⟨cb, 57, none⟩ = some (.int .i64 (st : Int))) (first
         | exact ⟨s56, s57⟩
         | exact ⟨t56, t57⟩) (first
       | (go_at_call 63; refine (HWB _ st (.slice none 0 0) [] (show Hid _ from HC6.out.drew) hst HY.out (by rw [List.length_nil]; omega)).mono ?_; rintro e w7 ⟨rfl, v7, c, hcrt, hcb, hcw, hkp⟩
          have HCR : Hid (Crt G (fsOf f) t st c) := hcrt
          have c54 := hcw.c54
          have HOS : Hid ((convert 122 9 v7).run Tryz.prog w7 = .ok (.string (bs c)) w7) := own_string hcw.own
          have HB7 : Hid (Below w.heap.size w w7) := hbel6.drew.trans ((kp_below hkp (by show w2.heap.size <= w6.heap.size; omega)).mono (by omega))
          have t56 : w7.cell? ⟨cb, 56, none⟩ = some (.int .i64 (kk : Int)) := (hkp.cell (by show cb < w6.heap.size; omega) hnec (by simp [Value.ownBlock]) 56).trans s56
          have t57 : w7.cell? ⟨cb, 57, none⟩ = some (.int .i64 (st : Int)) := (hkp.cell (by show cb < w6.heap.size; omega) hnec (by simp [Value.ownBlock]) 57).trans s57
          clear hcrt hcw hkp hcb))
     all_goals
       have hos := HOS.out
       go_wp2_with fail
       go_ret2
       exact ⟨HB7.out, .inr ⟨HY.out, c, HCR.out, rfl⟩⟩
theorem show_err (g f s : ByteArray) (n : Int) (w : World) (E : Nat) (h0 : E ≠ 0) (HQ : Hid (∀ W, Calls Tryz.prog 33 #[.string g, .string f, .string s, .int .i64 n] W fun e w' => e = .returned (.agg (.int .i64 (E : Int) :: rest57).toArray) ∧ Below W.heap.size W w')) :
   Calls Tryz.prog 18 #[.string g, .string f, .string s, .int .i64 n] w fun e w' => e = .returned (.tuple #[.string ByteArray.empty, .int .i64 (E : Int)]) ∧ Below w.heap.size w w' := by
 have hne : ((E : Int) != 0) = true := by rw [bne_iff_ne]; omega
 have hr7 := rest57_len
 have HO7 : Hid (∀ v ∈ rest57, v.oneCell' = true) := rest57_one
 obtain ⟨R7, hR7⟩ : ∃ R7, R7 = rest57 := ⟨_, rfl⟩
 rw [<- hR7] at hr7 HO7 HQ
 clear hR7 h0
 go_enter Tryz.func18, Tryz.ntmps18
 go_wp2_with (first
   | (go_at_call 33; refine (HQ.out _).mono ?_; rintro e w1 ⟨rfl, hb1⟩)
   | (refine storeT 81 58 Tryz.size81 (by rfl) _ _ (by rfl) w1.heap.size (Value.int .i64 (E : Int) :: R7).toArray (by rfl) (by rfl) (there_newG _ _ _ 58 rfl) (size58 _ _ hr7) (one57 _ _ HO7.out) ?_; intro w2 hb2 hz2 hk2 hr2
      have c0 : w2.cell? ⟨w1.heap.size, 0, none⟩ = some (.int .i64 (E : Int)) := hr2 0 _ rfl
      have hbe : Below w.heap.size w w2 := hb1.trans (((below1 w1 _).trans hb2).mono hb1.size)
      clear hr2))
 go_quiet (fail)
 go_wp2
 go_ret2
 exact ⟨rfl, below_drewN hbe _⟩
theorem show_ok (g f s : ByteArray) (st : Nat) (w : World) (hf : f.size ≤ 9223372036854775807) (h0 : flt g f s = 0) (hst : st < (gphOf g).n) (hA : ¬ txtA (push (ptAll s).2.2 false)) (hbt : bud (pushT (ptAll s).2.2 false) ≤ 900000000) :
   Calls Tryz.prog 18 #[.string g, .string f, .string s, .int .i64 (st : Int)] w fun e w' => Below w.heap.size w w' ∧ ((holdsP (gphOf g) (fsOf f) (pushT (ptAll s).2.2 false) st = false ∧ e = .returned (.tuple #[.string ByteArray.empty, .int .i64 9])) ∨ (holdsP (gphOf g) (fsOf f) (pushT (ptAll s).2.2 false) st = true ∧ ∃ c, Crt (gphOf g) (fsOf f) (pushT (ptAll s).2.2 false) st c ∧ e = .returned (.tuple #[.string (bs c), .int .i64 0]))) := by
 have HQ := fun W => claim_yes g f s (st : Int) W hf h0 (by omega) (by omega) hA
 obtain ⟨hg, hs, hck, hfo, hfr⟩ := flt_zero h0
 have hn6 : (gphOf g).n <= 6 := (run_starts g 6 0 (by omega)).1
 have hf3 : f.size <= 2 := by
   simp only [fairOk, Bool.and_eq_true, decide_eq_true_eq] at hfo
   omega
 have HSH := fun (hgd : good (ptAll s).2.2) (cb g2 cap2 kk : Nat) (ms : List Nd) (W : World) (hr : Rep ms (pushT (ptAll s).2.2 false) kk) (hcl : Clo ms) (hml : ms.length ≤ 1000) (hx : Hid (Cx W cb (cells52 (gphOf g).n (gphOf g).e (mrk g (run g 6 0).2.2) f (begP (gphOf g) (fsOf f))) g2 cap2 kk st ms)) => claimShown_is (gphOf g) (mrk g (run g 6 0).2.2) f (pushT (ptAll s).2.2 false) cb g2 cap2 kk st ms W (gph_ok hck) hn6 (fun i => mrk_size g _ i hg) (fun i c _ => by
     show (List.any _ _) = true ↔ _
     simp only [List.any_eq_true, beq_iff_eq]) hf3 hst (pushT_is _ hgd false).2.1 (push_shw _ hgd false (fun c hc h => hA ⟨c, hc, h⟩)) hr hcl hml hbt hx
 obtain ⟨Z, hZ⟩ : ∃ Z : Ending -> Prop, Z = fun e => ((holdsP (gphOf g) (fsOf f) (pushT (ptAll s).2.2 false) st = false ∧ e = .returned (.tuple #[.string ByteArray.empty, .int .i64 9])) ∨ (holdsP (gphOf g) (fsOf f) (pushT (ptAll s).2.2 false) st = true ∧ ∃ c, Crt (gphOf g) (fsOf f) (pushT (ptAll s).2.2 false) st c ∧ e = .returned (.tuple #[.string (bs c), .int .i64 0]))) := ⟨_, rfl⟩
 have HZ2 : Hid (∀ e, Z e -> ∃ (X : ByteArray) (E : Int), e = .returned (.tuple #[.string X, .int .i64 E])) := by
   intro e h
   rw [hZ] at h
   rcases h with ⟨_, rfl⟩ | ⟨_, c, _, rfl⟩
   · exact ⟨_, _, rfl⟩
   · exact ⟨_, _, rfl⟩
 have HSH2 : ∀ (hgd : good (ptAll s).2.2) (cb g2 cap2 kk : Nat) (ms : List Nd) (W : World) (hr : Rep ms (pushT (ptAll s).2.2 false) kk) (hcl : Clo ms) (hml : ms.length <= 1000) (hx : Hid (Cx W cb (cells52 (gphOf g).n (gphOf g).e (mrk g (run g 6 0).2.2) f (begP (gphOf g) (fsOf f))) g2 cap2 kk st ms)), Calls Tryz.prog 37 #[.pointer (some ⟨cb, 0, none⟩)] W fun e w' => Below W.heap.size W w' ∧ Z e := by rw [hZ]; exact HSH
 suffices hh : Calls Tryz.prog 18 #[.string g, .string f, .string s, .int .i64 (st : Int)] w fun e w' => Below w.heap.size w w' ∧ Z e by rw [hZ] at hh; exact hh
 clear hZ HSH
 obtain ⟨C2, hC2⟩ : ∃ C2, C2 = cells52 (gphOf g).n (gphOf g).e (mrk g (run g 6 0).2.2) f (begP (gphOf g) (fsOf f)) := ⟨_, rfl⟩
 have hC2l : C2.length = 52 := by rw [hC2]; exact cells52_len _ _ _ _ _
 have HC2o : Hid (C2.toArray.all (·.oneCell') = true) := by rw [hC2]; exact cells52_one _ _ _ _ _
 have HQ2 : Hid (∀ W, Calls Tryz.prog 33 #[.string g, .string f, .string s, .int .i64 (st : Int)] W fun e w' => Below W.heap.size W w' ∧ ∃ (g2 cap2 kk : Nat) (ms : List Nd), e = .returned (.agg (Value.int .i64 0 :: (C2 ++ tailC g2 cap2 kk ms.length (st : Int))).toArray) ∧ Nr w' g2 ms ∧ Rep ms (pushT (ptAll s).2.2 false) kk ∧ good (ptAll s).2.2 ∧ Clo ms ∧ ms.length <= 1000) := by
   intro W
   refine (HQ W).mono ?_
   rintro e w' ⟨h1, g2, cap2, kk, ms, h2, h3, h4, h5⟩
   exact ⟨h1, g2, cap2, kk, ms, by rw [h2, hC2]; rfl, h3, h4, h5⟩
 rw [<- hC2] at HSH2
 clear hC2 HQ hA h0 hck hfo hfr hs hg hst hn6
 go_enter Tryz.func18, Tryz.ntmps18
 go_wp2_with (first
   | (go_at_call 33; refine (HQ2.out _).mono ?_; rintro e w1 ⟨hb1, g2, cap2, kk, ms, rfl, hnr, hrep, hgood, hclo, hml⟩
      have HN1 : Hid (Nr w1 g2 ms) := hnr
      have HRP : Hid (Rep ms (pushT (ptAll s).2.2 false) kk) := hrep
      have HGD : Hid (good (ptAll s).2.2) := hgood
      have HCL : Hid (Clo ms) := hclo
      clear hnr hrep hgood hclo)
   | (refine storeT 81 58 Tryz.size81 (by rfl) _ _ (by rfl) w1.heap.size (Value.int .i64 0 :: (C2 ++ tailC g2 cap2 kk ms.length (st : Int))).toArray (by rfl) (by rfl) (there_newG _ _ _ 58 rfl) (c58_size C2 hC2l _ _ _ _ _) (c58_one C2 HC2o.out _ _ _ _ _) ?_; intro w2 hb2 hz2 hk2 hr2
      have hr2' : w2.rangeAt w1.heap.size 0 (Value.int .i64 0 :: (C2 ++ tailC g2 cap2 kk ms.length (st : Int))) := by simpa using hr2
      have c0 : w2.cell? ⟨w1.heap.size, 0, none⟩ = some (.int .i64 0) := hr2' 0 _ rfl
      have hb12 : Below w1.heap.size w1 w2 := (below1 w1 _).trans hb2
      have hbe : Below w.heap.size w w2 := hb1.trans (hb12.mono hb1.size)
      have hs12 : w1.heap.size < w2.heap.size := by rw [hz2]; simp
      have HCX : Hid (Cx w2 w1.heap.size C2 g2 cap2 kk st ms) := ⟨hs12, rangeAt_part (xs := [.int .i64 0]) hr2' rfl rfl,
        hr2' 55 _ (by rw [List.getElem?_cons_succ, List.getElem?_append_right (by rw [hC2l]; omega), hC2l]; rfl),
        hr2' 56 _ (by rw [List.getElem?_cons_succ, List.getElem?_append_right (by rw [hC2l]; omega), hC2l]; rfl),
        hr2' 57 _ (by rw [List.getElem?_cons_succ, List.getElem?_append_right (by rw [hC2l]; omega), hC2l]; rfl), HN1.out.below hb12 HN1.out.lt⟩
      clear hr2 hr2' hb2 hz2 hk2)
   | (go_at_call 37; refine (HSH2 HGD.out w1.heap.size g2 cap2 kk ms _ HRP.out HCL.out hml HCX).mono ?_; rintro e w3 ⟨hb3, hz3⟩
      obtain ⟨XX, EE, rfl⟩ := HZ2.out e hz3
      have HZ3 : Hid (Z (.returned (.tuple #[.string XX, .int .i64 EE]))) := hz3
      clear hz3))
 go_ret2
 exact ⟨Below.to hbe hb3, HZ3.out⟩
theorem show_all (g f s : ByteArray) (n : Int) (w : World) (hf : f.size ≤ 9223372036854775807) :
   Calls Tryz.prog 18 #[.string g, .string f, .string s, .int .i64 n] w fun e w' => ∃ (X : ByteArray) (E : Nat), e = .returned (.tuple #[.string X, .int .i64 (E : Int)]) ∧ ShOk g f s n X E ∧ Below w.heap.size w w' := by
 by_cases h0 : flt g f s = 0
 · by_cases hn : n < 0 ∨ ((gphOf g).n : Int) <= n
   · have e : lat g f s n = 7 := by unfold lat; rw [if_neg (by omega), if_pos hn]
     refine (show_err g f s n w 7 (by omega) (fun W => claim_arg g f s n W hf h0 (by omega))).mono ?_
     rintro e w' ⟨rfl, hb⟩
     exact ⟨_, 7, rfl, .inl ⟨by omega, by omega, rfl⟩, hb⟩
   · by_cases hA : txtA (push (ptAll s).2.2 false)
     · have e : lat g f s n = 8 := by unfold lat; rw [if_neg (by omega), if_neg hn, tree_all, if_pos ((anyT_iff _).2 hA)]
       refine (show_err g f s n w 8 (by omega) (fun W => claim_A g f s n W hf h0 (by omega) (by omega) hA)).mono ?_
       rintro e w' ⟨rfl, hb⟩
       exact ⟨_, 8, rfl, .inl ⟨by omega, by omega, rfl⟩, hb⟩
     · obtain ⟨st, rfl⟩ : ∃ st : Nat, n = (st : Int) := ⟨n.toNat, by omega⟩
       have hst : st < (gphOf g).n := by omega
       have el : lat g f s (st : Int) = 0 := by unfold lat; rw [if_neg (by omega), if_neg hn, tree_all, if_neg (fun h => hA ((anyT_iff _).1 h))]
       obtain ⟨hg, hs, hck, hfo, hfr⟩ := flt_zero h0
       have hgd := (frm_zero hfr).2
       have hn6 : (gphOf g).n <= 6 := (run_starts g 6 0 (by omega)).1
       have hbt := bud_max el
       have eqh : holdsP (gphOf g) (fsOf f) (pushT (treeOf s) false) st = holdsB (gphOf g) (fsOf f) (treeOf s) st := by
         rw [holds_eq (gph_ok hck) hn6 _ (pushT_is _ hgd false).2.1 st hst, Bool.eq_iff_iff, holdsB_iff (gph_ok hck) _ (pushT_is _ hgd false).2.1 st hst, holdsB_iff (gph_ok hck) _ hgd st hst]
         exact (pushT_sat (treeOf s) hgd st).1
       rw [tree_all] at eqh hbt
       refine (show_ok g f s st w hf h0 hst hA (by omega)).mono ?_
       rintro e w' ⟨hb, ⟨hh, rfl⟩ | ⟨hh, c, hc, rfl⟩⟩
       · rw [eqh] at hh
         exact ⟨_, 9, rfl, .inr (.inl ⟨el, by simpa [tree_all] using hh, rfl, rfl⟩), hb⟩
       · rw [eqh] at hh
         exact ⟨_, 0, rfl, .inr (.inr ⟨el, by simpa [tree_all] using hh, rfl, crt_rpl el (by simpa [tree_all] using hc)⟩), hb⟩
 · have e : lat g f s n = flt g f s := by unfold lat; rw [if_pos h0]
   refine (show_err g f s n w _ h0 (fun W => claim_err g f s n W hf _ rfl h0)).mono ?_
   rintro e w' ⟨rfl, hb⟩
   exact ⟨_, _, rfl, .inl ⟨by omega, by omega, rfl⟩, hb⟩
end Go.Proofs.YtcfbfdjmcabnkabGreat
