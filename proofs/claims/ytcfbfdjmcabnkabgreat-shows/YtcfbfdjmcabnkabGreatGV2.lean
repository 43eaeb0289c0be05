import Derived.Deep.AppendLies
import Derived.Deep.RegionHeld3
import Derived.Test.YtcfbfdjmcabnkabGreatGV1
import Derived.Test.YtcfbfdjmcabnkabGreatG7
set_option maxRecDepth 100000
set_option maxHeartbeats 4000000
namespace Go.Proofs.YtcfbfdjmcabnkabGreat
open Go.RowKit Fw
open Go.Deep (BT)
set_option linter.unusedVariables false
def u8s (X : List UInt8) : List Value := X.map fun x => .int .u8 (x.toNat : Int)
theorem u8s_snoc (X : List UInt8) (c : UInt8) : u8s (X ++ [c]) = u8s X ++ [.int .u8 (c.toNat : Int)] := by simp [u8s]
theorem Tryz.info5 : (Tryz.prog.info? 5).map (fun i => (i.zero, i.size, i.bytes)) = some (some (.int .u8 0), 1, 1) := by kernel_rfl
theorem own_same {w w' : World} {base : Nat} {e : TypeId} {size : Nat} {v : Value} {n : Nat} {xs : List Value} (h : w.ownsRow base e size v n xs) (hk : ∀ k, v.ownBlock = some k -> w'.heap[k]? = w.heap[k]?) : w'.ownsRow base e size v n xs := by
 obtain ⟨h1, h2⟩ := h
 refine ⟨h1, ?_⟩
 rcases h2 with h2 | ⟨g, cap, cur, rfl, hg, hh, r⟩
 · exact .inl h2
 · exact .inr ⟨g, cap, cur, rfl, hg, (hk g rfl).trans hh, r⟩
structure Cw (w : World) (b g cap gs : Nat) (G : Gph) (K : Nat -> ByteArray) (f : ByteArray) (B : Nat -> Bool) (ns : List Nd) (F : Nat -> Nat -> Bool) (v : Value) (X : List UInt8) : Prop where
 wy : Wy w b 0 G K f B
 c52 : w.cell? ⟨b, 52, none⟩ = some (.slice (some ⟨g, 0, none⟩) ns.length cap)
 c53 : w.cell? ⟨b, 53, none⟩ = some (.slice (some ⟨gs, 0, none⟩) ns.length ns.length)
 c54 : w.cell? ⟨b, 54, none⟩ = some v
 fz : w.frozen? ⟨b, 54, none⟩ = false
 nr : Nr w g ns
 gl : g < b
 tb : Tab w gs ns.length F
 sl : gs < b
 own : w.ownsRow (b + 1) 5 1 v X.length (u8s X)
section
variable {w w' : World} {b g cap gs : Nat} {G : Gph} {K : Nat -> ByteArray} {f : ByteArray} {B : Nat -> Bool} {ns : List Nd} {F : Nat -> Nat -> Bool} {v : Value} {X : List UInt8}
theorem Cw.form (h : Cw w b g cap gs G K f B ns F v X) : ∃ a c, v = .slice a X.length c := by
 rcases h.own.2 with ⟨h1, h2⟩ | ⟨g, cap, cur, h1, _⟩
 · exact ⟨none, 0, by rw [h1, h2]⟩
 · exact ⟨_, _, h1⟩
theorem Cw.lt (h : Cw w b g cap gs G K f B ns F v X) : b < w.heap.size := h.wy.lt
theorem Cw.ownLt (h : Cw w b g cap gs G K f B ns F v X) {k : Nat} (e : v.ownBlock = some k) : b < k ∧ k < w.heap.size := by
 have := h.own.lt _ e
 omega
theorem Cw.ne (h : Cw w b g cap gs G K f B ns F v X) {k : Nat} (hk : w.heap.size <= k) : v.ownBlock ≠ some k := fun e => by have := h.ownLt e; omega
theorem Cw.same (h : Cw w b g cap gs G K f B ns F v X) (hs : w.heap.size <= w'.heap.size) (hb : w'.heap[b]? = w.heap[b]?) (hg : w'.heap[g]? = w.heap[g]?) (hgs : w'.heap[gs]? = w.heap[gs]?) (hv : ∀ k, v.ownBlock = some k -> w'.heap[k]? = w.heap[k]?) : Cw w' b g cap gs G K f B ns F v X := by
 have cb : ∀ j, w'.cell? ⟨b, j, none⟩ = w.cell? ⟨b, j, none⟩ := fun j => World.cell?_of_block (w := w) hb
 have cg : ∀ j, w'.cell? ⟨g, j, none⟩ = w.cell? ⟨g, j, none⟩ := fun j => World.cell?_of_block (w := w) hg
 have cs : ∀ j, w'.cell? ⟨gs, j, none⟩ = w.cell? ⟨gs, j, none⟩ := fun j => World.cell?_of_block (w := w) hgs
 have fb : ∀ j, w'.frozen? ⟨b, j, none⟩ = w.frozen? ⟨b, j, none⟩ := fun j => World.frozen?_of_block (w := w) hb
 have fs : ∀ j, w'.frozen? ⟨gs, j, none⟩ = w.frozen? ⟨gs, j, none⟩ := fun j => World.frozen?_of_block (w := w) hgs
 exact ⟨⟨Nat.lt_of_lt_of_le h.wy.lt hs, h.wy.n6, (cb _).trans h.wy.cn, fun i hi => (cb _).trans (h.wy.cm i hi), fun i j hi hj => (cb _).trans (h.wy.ce i j hi hj), (cb _).trans h.wy.cf, fun i hi => (cb _).trans (h.wy.cb i hi), h.wy.ks, h.wy.mm⟩,
   (cb _).trans h.c52, (cb _).trans h.c53, (cb _).trans h.c54, (fb _).trans h.fz, ⟨Nat.lt_of_lt_of_le h.nr.lt hs, fun i x hx j u hu => (cg _).trans (h.nr.c i x hx j u hu)⟩, h.gl,
   ⟨Nat.lt_of_lt_of_le h.tb.lt hs, fun i j hi hj => (cs _).trans (h.tb.c i j hi hj), fun o ho => (fs _).trans (h.tb.z o ho)⟩, h.sl, own_same h.own hv⟩
theorem Cw.drew (h : Cw w b g cap gs G K f B ns F v X) : Cw w.drew b g cap gs G K f B ns F v X := h.same (Nat.le_refl _) rfl rfl rfl (fun _ _ => rfl)
theorem Cw.below (h : Cw w b g cap gs G K f B ns F v X) (hb : Below w.heap.size w w') : Cw w' b g cap gs G K f B ns F v X :=
 h.same hb.size (hb.block b h.wy.lt) (hb.block g h.nr.lt) (hb.block gs h.tb.lt) (fun k e => hb.block k (h.ownLt e).2)
theorem Cw.alloc (h : Cw w b g cap gs G K f B ns F v X) (o : Obj) : Cw (w.alloc o) b g cap gs G K f B ns F v X := h.below ((Below.refl _ _).alloc (Nat.le_refl _) _)
theorem Cw.kq (h : Cw w b g cap gs G K f B ns F v X) {H : Nat} (k : Kq H w w') (hH : b < H) (hv : v.ownBlock ≠ some H) : Cw w' b g cap gs G K f B ns F v X :=
 h.same k.size (k.keep b h.wy.lt (by omega)) (k.keep g h.nr.lt (by have := h.gl; omega)) (k.keep gs h.tb.lt (by have := h.sl; omega)) (fun j e => k.keep j (h.ownLt e).2 (fun e2 => hv (e2 ▸ e)))
theorem Kp.new {w w' w'' : World} {b : Nat} {v v' : Value} (h : Kp b v v' w w') (k : Below w'.heap.size w' w'') : Kp b v v' w w'' :=
 ⟨k.os.trans h.os, k.tape.trans h.tape, k.output.trans h.output, Nat.le_trans h.size k.size, fun x hx h1 h2 => (k.block x (Nat.lt_of_lt_of_le hx h.size)).trans (h.keep x hx h1 h2), h.at'⟩
theorem Kp.kq {w w' w'' : World} {b H : Nat} {v v' : Value} (h : Kp b v v' w w') (k : Kq H w' w'') (hH : w.heap.size <= H) : Kp b v v' w w'' :=
 ⟨k.os.trans h.os, k.tape.trans h.tape, k.output.trans h.output, Nat.le_trans h.size k.size, fun x hx h1 h2 => (k.keep x (Nat.lt_of_lt_of_le hx h.size) (by omega)).trans (h.keep x hx h1 h2), h.at'⟩
theorem Kp.ls {w w' : World} {b H fr : Nat} {v v' : Value} {ls : List Nat} (h : Kp b v v' w w') (hl : Ls w H ls fr) (hb : H ≠ b) (hv : v.ownBlock ≠ some H) : Ls w' H ls fr := hl.same h.size (h.keep H hl.lt hb hv)
end
theorem put_fin {w W w1 : World} {b g cap gs gg cap2 : Nat} {G : Gph} {K : Nat → ByteArray} {f : ByteArray} {B : Nat → Bool} {ns : List Nd} {F : Nat → Nat → Bool} {v : Value} {X : List UInt8} {c : UInt8} {o : Obj} (hr : Cw w b g cap gs G K f B ns F v X)
   (hown1 : w1.ownsRow (b + 1) 5 1 (.slice (some ⟨gg, 0, none⟩) (X.length + 1) cap2) (X.length + 1) (u8s X ++ [.int .u8 (c.toNat : Int)]))
   (hgrow : (w.alloc o).grownBy w1 v.ownBlock) (hat : v.ownBlock = some gg ∨ gg = w.heap.size + 1) :
   ∃ v', Cw (w1.setCell ⟨b, 54, none⟩ (.slice (some ⟨gg, 0, none⟩) (X.length + 1) cap2)) b g cap gs G K f B ns F v' (X ++ [c]) ∧ Kp b v v' w (w1.setCell ⟨b, 54, none⟩ (.slice (some ⟨gg, 0, none⟩) (X.length + 1) cap2)) := by
 have hlt := hr.lt
 have hgl := hr.gl
 have hsl := hr.sl
 have ab : some b ≠ v.ownBlock := fun e => by have := hr.ownLt e.symm; omega
 have ag : some g ≠ v.ownBlock := fun e => by have := hr.ownLt e.symm; omega
 have aS : some gs ≠ v.ownBlock := fun e => by have := hr.ownLt e.symm; omega
 have hra := hr.alloc o
 have hsz : w.heap.size + 1 <= w1.heap.size := by have := hgrow.size; simpa using this
 have hc : ∀ j, w1.cell? ⟨b, j, none⟩ = (w.alloc o).cell? ⟨b, j, none⟩ := fun j => hgrow.cell_far ⟨b, j, none⟩ (by simp; omega) ab
 have hf : ∀ j, w1.frozen? ⟨b, j, none⟩ = (w.alloc o).frozen? ⟨b, j, none⟩ := fun j => hgrow.frozen_far ⟨b, j, none⟩ (by simp; omega) ab
 have hcg : ∀ j, w1.cell? ⟨g, j, none⟩ = (w.alloc o).cell? ⟨g, j, none⟩ := fun j => hgrow.cell_far ⟨g, j, none⟩ (by simp; omega) ag
 have hcs : ∀ j, w1.cell? ⟨gs, j, none⟩ = (w.alloc o).cell? ⟨gs, j, none⟩ := fun j => hgrow.cell_far ⟨gs, j, none⟩ (by simp; omega) aS
 have hfs : ∀ j, w1.frozen? ⟨gs, j, none⟩ = (w.alloc o).frozen? ⟨gs, j, none⟩ := fun j => hgrow.frozen_far ⟨gs, j, none⟩ (by simp; omega) aS
 have kb : ∀ j u, j ≠ 54 -> (w1.setCell ⟨b, 54, none⟩ u).cell? ⟨b, j, none⟩ = (w.alloc o).cell? ⟨b, j, none⟩ := fun j u h => by rw [cell_otherY (addr_ne3 (by omega)), hc]
 refine ⟨.slice (some ⟨gg, 0, none⟩) (X.length + 1) cap2, ⟨⟨by simp; omega, hr.wy.n6, ?_, ?_, ?_, ?_, ?_, hr.wy.ks, hr.wy.mm⟩, ?_, ?_, ?_, ?_, ⟨?_, ?_⟩, hr.gl, ⟨?_, ?_, ?_⟩, hr.sl, ?_⟩, ⟨?_, ?_, ?_, ?_, ?_, ?_⟩⟩
 · rw [kb _ _ (by omega)]; exact hra.wy.cn
 · intro i hi; rw [kb _ _ (by omega)]; exact hra.wy.cm i hi
 · intro i j hi hj; rw [kb _ _ (by omega)]; exact hra.wy.ce i j hi hj
 · rw [kb _ _ (by omega)]; exact hra.wy.cf
 · intro i hi; rw [kb _ _ (by omega)]; exact hra.wy.cb i hi
 · rw [kb _ _ (by omega)]; exact hra.c52
 · rw [kb _ _ (by omega)]; exact hra.c53
 · exact cell_sameY ((hc 54).trans hra.c54)
 · rw [World.frozen?_setCell, hf]; exact hra.fz
 · have := hr.nr.lt; simp; omega
 · intro i x hx j u hu
   rw [cell_otherY (addr_nb (by omega)), hcg]
   exact hra.nr.c i x hx j u hu
 · have := hr.tb.lt; simp; omega
 · intro i j hi hj
   rw [cell_otherY (addr_nb (by omega)), hcs]
   exact hra.tb.c i j hi hj
 · intro o ho
   rw [World.frozen?_setCell, hfs]
   exact hra.tb.z o ho
 · have := ownsRow_setCell_below hown1 (a := ⟨b, 54, none⟩) (by simp) (.slice (some ⟨gg, 0, none⟩) (X.length + 1) cap2)
   rw [<- u8s_snoc] at this
   simpa using this
 · exact hgrow.os
 · exact hgrow.tape
 · exact hgrow.output
 · simp; omega
 · intro k h1 h2 h3
   rw [Below.heap_setCell _ _ _ _ h2, hgrow.block k (by simp; omega) (fun e => h3 e.symm)]
   exact Below.heap_alloc w o k (by omega)
 · rcases hat with e | e
   · exact .inl e.symm
   · exact .inr ⟨gg, rfl, by omega⟩
theorem put_is (b g cap gs c : Nat) (G : Gph) (K : Nat → ByteArray) (f : ByteArray) (B : Nat → Bool) (ns : List Nd) (F : Nat → Nat → Bool) (v : Value) (X : List UInt8) (w : World) (hc : c < 256) (hX : X.length ≤ 1000000000) (HR : Hid (Cw w b g cap gs G K f B ns F v X)) :
   Calls Tryz.prog 93 #[.pointer (some ⟨b, 0, none⟩), .int .u8 (c : Int)] w fun e w' => e = .returned (.tuple #[]) ∧ ∃ v', Cw w' b g cap gs G K f B ns F v' (X ++ [b8 c]) ∧ Kp b v v' w w' := by
 obtain ⟨i0, hi0, hz0, hz1, hz2⟩ := info_parts Tryz.info5
 obtain ⟨a, cp, rfl⟩ := HR.out.form
 have c54 := HR.out.c54
 have hlt := HR.out.lt
 have ca : ∀ o, (w.alloc o).cell? ⟨b, 54, none⟩ = some (.slice a X.length cp) := fun o => (HR.out.alloc o).c54
 have HFA : Hid (∀ o, (w.alloc o).frozen? ⟨b, 54, none⟩ = false) := fun o => (HR.out.alloc o).fz
 have hown := HR.out.own
 have ab : (Value.slice a X.length cp).ownBlock ≠ some b := fun e => by have := (HR.out.own.lt _ e).1; omega
 have hb8 : ((b8 c).toNat : Int) = (c : Int) := by rw [b8_nat hc]
 go_enter Tryz.func93, Tryz.ntmps93
 go_wp2_with ((refine wpList_append_lies _ (by rfl) _ _ _ (by rfl) (b + 1) 5 i0 _ 1 1 Tryz.underlying122 hi0 hz0 hz1 hz2 rfl (by omega) (.slice a X.length cp) X.length (u8s X) (by rfl) (hown.alloc _) ⟨w.heap.size, 0, none⟩ 1 1 [Value.int IntKind.u8 ↑c] (by rfl) (by rfl) (World.news_of_block (cs := #[Value.int IntKind.u8 ↑c]) (t := 5) (fr := (0, 0)) (heap_alloc_new w _)) (by simp [Value.oneCell']) (by omega) (by unfold maxLen; omega) (by omega) (by simp; omega) (w.heap.size + 1) (by simp) ?_; intro gg cap2 w1 hown1 hgrow hat hlt1; have hfz1 : w1.frozen? ⟨b, 54, none⟩ = false := (hgrow.frozen_far ⟨b, 54, none⟩ (by simp; omega) (Ne.symm ab)).trans (HFA.out _); have hcl1 : w1.cell? ⟨b, 54, none⟩ = some (.slice a X.length cp) := (hgrow.cell_far ⟨b, 54, none⟩ (by simp; omega) (Ne.symm ab)).trans (ca _)))
 exact bodyPost_end (v := .tuple #[]) (by simp [results, Tryz.results93, go_sem]) rfl ⟨rfl, put_fin (W := w) HR.out (by rw [hb8]; exact hown1) hgrow hat⟩
section
variable (b g cap gs : Nat) (G : Gph) (K : Nat -> ByteArray) (f : ByteArray) (B : Nat -> Bool) (ns : List Nd) (F : Nat -> Nat -> Bool)
theorem putN (c : Nat) (n : Int) (v : Value) (X : List UInt8) (w : World) (hn : n = (c : Int)) (hc : c < 256) (hX : X.length ≤ 1000000000) (HR : Hid (Cw w b g cap gs G K f B ns F v X)) :
   Calls Tryz.prog 93 #[.pointer (some ⟨b, 0, none⟩), .int .u8 n] w fun e w' => e = .returned (.tuple #[]) ∧ ∃ v', Cw w' b g cap gs G K f B ns F v' (X ++ [b8 c]) ∧ Kp b v v' w w' := by
 subst hn
 exact put_is b g cap gs c G K f B ns F v X w hc hX HR
theorem wLasso_is (fr : Nat) (ls : List Nat) (C : List Value) (hC : C = lasC ls ls.length fr) (v : Value) (X : List UInt8) (w : World) (hle : ls.length ≤ 40) (hfr : fr < ls.length) (hlt : ∀ y ∈ ls, y < G.n) (hX : X.length + 50 ≤ 1000000000) (HR : Hid (Cw w b g cap gs G K f B ns F v X)) :
   Calls Tryz.prog 124 #[.pointer (some ⟨b, 0, none⟩), .agg C.toArray] w fun e w' => e = .returned (.tuple #[]) ∧ ∃ v', Cw w' b g cap gs G K f B ns F v' (X ++ lasT ls fr) ∧ Kp b v v' w w' := by
 have hbl := HR.out.lt
 have hn6 := HR.out.wy.n6
 have HL : Hid (Ls (w.alloc (.cells C.toArray 166)) w.heap.size ls fr) := ls_new w hC hle 166
 have HR0 : Hid (Cw (w.alloc (.cells C.toArray 166)) b g cap gs G K f B ns F v X) := HR.out.alloc _
 have HV0 : Hid (v.ownBlock ≠ some w.heap.size) := HR.out.ne (Nat.le_refl _)
 have HLT : Hid (∀ y ∈ ls, y < G.n) := hlt
 have eb : w.heap.size ≠ b := by omega
 clear hC hlt
 go_enter Tryz.func124, Tryz.ntmps124
 go_wp2_with fail
 refine (putN b g cap gs G K f B ns F 91 91 v X _ rfl (by omega) (by omega) HR0).mono ?_
 rintro e w1 ⟨rfl, v1, hw1, hk1⟩
 have HW1 : Hid (Cw w1 b g cap gs G K f B ns F v1 (X ++ (91 :: lasP ls fr 0))) := by rw [lasP_zero]; exact hw1
 have HL1 : Hid (Ls w1 w.heap.size ls fr) := hk1.ls HL.out eb HV0.out
 have HV1 : Hid (v1.ownBlock ≠ some w.heap.size) := own_ne hk1 (by simp) HV0.out
 have HK1 : Hid (Kp b v v1 w w1) := hk1.unbox
 clear hw1 hk1 HR0 HL
 go_wp2_with fail
 go_loopw [4] (fun q wr => ∃ (k : Nat) (vv : Value), k <= ls.length ∧ q = .int .i64 k ∧ Hid (Cw wr b g cap gs G K f B ns F vv (X ++ (91 :: lasP ls fr k))) ∧ Hid (Kp b v vv w wr) ∧ Hid (Ls wr w.heap.size ls fr) ∧ Hid (vv.ownBlock ≠ some w.heap.size)) (fun q _ => ls.length - (intOf q).toNat)
 case atStart => exact ⟨0, v1, by omega, rfl, HW1, HK1, HL1, HV1⟩
 case round =>
   clear HW1 HK1 HL1 HV1
   obtain ⟨k, vv, hk, rfl, HW, HK, HLr, HV⟩ := hrel
   have cn := HLr.out.cn
   have cf := HLr.out.cf
   have hlp := lasP_len ls fr k
   have hXk : (X ++ (91 :: lasP ls fr k)).length + 5 <= 1000000000 := by simp; omega
   have hwr : w.heap.size < wr.heap.size := HLr.out.lt
   by_cases hlt : k < ls.length
   · have hlt2 : (k : Int) < (ls.length : Int) := by omega
     have k0 : (0 : Int) <= (k : Int) := by omega
     have k1 : (k : Int) < 40 := by omega
     have hx6 : ls.getD k 0 < 6 := by have := getD_lt HLT.out hlt; omega
     obtain ⟨x, hx⟩ : ∃ x, x = ls.getD k 0 := ⟨_, rfl⟩
     have HXE : Hid (x = ls.getD k 0) := hx
     rw [<- hx] at hx6
     clear hx
     have u1 : IntKind.u8.wrap (x : Int) = (x : Int) := by simp only [IntKind.wrap, IntKind.signed, IntKind.bits, Bool.false_and, Bool.false_eq_true, if_false]; omega
     have u2 : IntKind.u8.wrap (48 + (x : Int)) = 48 + (x : Int) := by simp only [IntKind.wrap, IntKind.signed, IntKind.bits, Bool.false_and, Bool.false_eq_true, if_false]; omega
     by_cases he : k = fr
     · have he' : ((k : Int) == (fr : Int)) = true := by rw [beq_iff_eq]; omega
       have HPA : Hid (lasP ls fr (k + 1) = lasP ls fr k ++ [40] ++ [b8 (48 + x)]) := by
         show _ = _
         rw [HXE.out]
         subst he
         exact lasP_at hlt
       clear he
       go_wp2_with fail
       refine (putN b g cap gs G K f B ns F 40 40 vv _ _ rfl (by omega) (by omega) HW).mono ?_
       rintro e w2 ⟨rfl, v2, hw2, hk2⟩
       have HW2 : Hid (Cw w2 b g cap gs G K f B ns F v2 (X ++ (91 :: lasP ls fr k) ++ [b8 40])) := hw2
       have HL2 : Hid (Ls w2 w.heap.size ls fr) := hk2.ls HLr.out eb HV.out
       have HV2 : Hid (v2.ownBlock ≠ some w.heap.size) := own_ne hk2 hwr HV.out
       have HK2 : Hid (Kp b v v2 w w2) := HK.out.trans hk2
       have ck : w2.cell? ⟨w.heap.size, k, none⟩ = some (.int .i64 (x : Int)) := by rw [HXE.out]; exact HL2.out.c k (by omega)
       clear hw2 hk2
       go_wp2_with fail
       refine (putN b g cap gs G K f B ns F (48 + x) (48 + (x : Int)) v2 _ _ (by omega) (by omega) (by rw [List.length_append]; simp only [List.length_cons, List.length_nil]; omega) HW2).mono ?_
       rintro e w3 ⟨rfl, v3, hw3, hk3⟩
       have hlt23 : w.heap.size < w2.heap.size := HL2.out.lt
       go_wp2_with fail
       go_roundw
       case rel =>
         refine ⟨k + 1, v3, by omega, by go_num, ?_, HK2.out.trans hk3, hk3.ls HL2.out eb HV2.out, own_ne hk3 hlt23 HV2.out⟩
         show Cw _ _ _ _ _ _ _ _ _ _ _ _ _
         rw [HPA.out]
         have : X ++ 91 :: (lasP ls fr k ++ [40] ++ [b8 (48 + x)]) = X ++ 91 :: lasP ls fr k ++ [b8 40] ++ [b8 (48 + x)] := by simp; rfl
         rw [this]
         exact hw3
       case measure => simp [intOf]; omega
     · have he' : ((k : Int) == (fr : Int)) = false := by rw [beq_eq_false_iff_ne]; omega
       have HPA : Hid (lasP ls fr (k + 1) = lasP ls fr k ++ [b8 (48 + x)]) := by
         show _ = _
         rw [HXE.out]
         exact lasP_off hlt he
       clear he
       have ck : wr.cell? ⟨w.heap.size, k, none⟩ = some (.int .i64 (x : Int)) := by rw [HXE.out]; exact HLr.out.c k (by omega)
       go_wp2_with fail
       refine (putN b g cap gs G K f B ns F (48 + x) (48 + (x : Int)) vv _ _ (by omega) (by omega) (by omega) HW).mono ?_
       rintro e w3 ⟨rfl, v3, hw3, hk3⟩
       go_wp2_with fail
       go_roundw
       case rel =>
         refine ⟨k + 1, v3, by omega, by go_num, ?_, HK.out.trans hk3, hk3.ls HLr.out eb HV.out, own_ne hk3 hwr HV.out⟩
         show Cw _ _ _ _ _ _ _ _ _ _ _ _ _
         rw [HPA.out]
         have : X ++ 91 :: (lasP ls fr k ++ [b8 (48 + x)]) = X ++ 91 :: lasP ls fr k ++ [b8 (48 + x)] := by simp
         rw [this]
         exact hw3
       case measure => simp [intOf]; omega
   · obtain rfl : k = ls.length := by omega
     have hlt2 : ¬ (ls.length : Int) < (ls.length : Int) := by omega
     go_wp2_with fail
     refine (putN b g cap gs G K f B ns F 41 41 vv _ _ rfl (by omega) (by omega) HW).mono ?_
     rintro e w2 ⟨rfl, v2, hw2, hk2⟩
     have HW2 : Hid (Cw w2 b g cap gs G K f B ns F v2 (X ++ (91 :: lasP ls fr ls.length) ++ [b8 41])) := hw2
     have HK2 : Hid (Kp b v v2 w w2) := HK.out.trans hk2
     clear hw2 hk2
     go_wp2_with fail
     refine (putN b g cap gs G K f B ns F 93 93 v2 _ _ rfl (by omega) (by rw [List.length_append]; simp only [List.length_cons, List.length_nil]; omega) HW2).mono ?_
     rintro e w3 ⟨rfl, v3, hw3, hk3⟩
     go_wp2_with fail
     refine bodyPost_end (v := .tuple #[]) (by simp [results, Tryz.results124, go_sem]) rfl ⟨rfl, v3, ?_, HK2.out.trans hk3⟩
     have : X ++ lasT ls fr = X ++ 91 :: lasP ls fr ls.length ++ [b8 41] ++ [b8 93] := by rw [<- lasP_all hfr]; simp; exact ⟨rfl, rfl⟩
     rw [this]
     exact hw3
theorem wOnward_is (fr : Nat) (ls : List Nat) (C : List Value) (hC : C = lasC ls ls.length fr) (v : Value) (X : List UInt8) (w : World) (ok : G.ok) (hls : ls ≠ []) (hf : f.size ≤ 2) (hle : ls.length ≤ 20) (hlt : ∀ y ∈ ls, y < G.n) (hs : begP G (fsOf f) (lastL ls) = true) (hX : X.length + 50 ≤ 1000000000) (HR : Hid (Cw w b g cap gs G K f (begP G (fsOf f)) ns F v X)) :
   Calls Tryz.prog 119 #[.pointer (some ⟨b, 0, none⟩), .agg C.toArray] w fun e w' => e = .returned (.tuple #[]) ∧ ∃ v' ex fr', EndOk G (fsOf f) (begP G (fsOf f)) ls ex fr' ∧ Cw w' b g cap gs G K f (begP G (fsOf f)) ns F v' (X ++ lasT (ls ++ ex) fr') ∧ Kp b v v' w w' := by
 have hbl := HR.out.lt
 have hn6 := HR.out.wy.n6
 have HL : Hid (Ls (w.alloc (.cells C.toArray 166)) w.heap.size ls fr) := ls_new w hC (by omega) 166
 have HV0 : Hid (v.ownBlock ≠ some w.heap.size) := HR.out.ne (Nat.le_refl _)
 have eb : w.heap.size ≠ b := by omega
 have hst : stayP G (fsOf f) (begP G (fsOf f)) (lastL ls) = true := stay_beg ok hn6 hs
 have HLEN : Hid (∀ ex fr', EndOk G (fsOf f) (begP G (fsOf f)) ls ex fr' -> (ls ++ ex).length <= 40 ∧ fr' < (ls ++ ex).length ∧ ∀ y ∈ ls ++ ex, y < G.n) := fun ex fr' h => by
   have h1 := h.le
   rw [fs_len] at h1
   refine ⟨by rw [List.length_append]; omega, h.fl, fun y hy => ?_⟩
   rcases List.mem_append.1 hy with hy | hy
   · exact hlt y hy
   · exact h.lt y hy
 obtain ⟨BB, hB⟩ : ∃ BB, BB = begP G (fsOf f) := ⟨_, rfl⟩
 rw [<- hB] at HR hst HLEN
 rw [<- hB]
 clear hB hs hC
 have HR0 : Hid (Cw (w.alloc (.cells C.toArray 166)) b g cap gs G K f BB ns F v X) := HR.out.alloc _
 have HFE := fun W (h : Hid (Wy W b 0 G K f BB)) (h2 : Hid (Ls W w.heap.size ls fr)) => fairEnd_is b 0 w.heap.size fr ls G K f BB BB W ok hls hf hle hlt (Ne.symm eb) hst h h2
 clear hst ok hls hlt
 have h6 : ∀ W : World, Wy W b 0 G K f BB -> (fun w' => (w'.cell? ⟨b, 46, none⟩ = some (.bool (BB 0)) ∧ w'.cell? ⟨b, 47, none⟩ = some (.bool (BB 1)) ∧ w'.cell? ⟨b, 48, none⟩ = some (.bool (BB 2)) ∧ w'.cell? ⟨b, 49, none⟩ = some (.bool (BB 3)) ∧ w'.cell? ⟨b, 50, none⟩ = some (.bool (BB 4)) ∧ w'.cell? ⟨b, 51, none⟩ = some (.bool (BB 5)))) W := fun W h => by
   have := h.begin
   simp only [Nat.zero_add] at this
   exact this
 have H6 : Hid (∀ W : World, Wy W b 0 G K f BB -> (fun w' => (w'.cell? ⟨b, 46, none⟩ = some (.bool (BB 0)) ∧ w'.cell? ⟨b, 47, none⟩ = some (.bool (BB 1)) ∧ w'.cell? ⟨b, 48, none⟩ = some (.bool (BB 2)) ∧ w'.cell? ⟨b, 49, none⟩ = some (.bool (BB 3)) ∧ w'.cell? ⟨b, 50, none⟩ = some (.bool (BB 4)) ∧ w'.cell? ⟨b, 51, none⟩ = some (.bool (BB 5)))) W) := h6
 clear h6
 go_enter Tryz.func119, Tryz.ntmps119
 go_wp2_with fail
 have HK0 : Hid (Kp b v v w (w.alloc (.cells C.toArray 166))) := (Kp.refl b v w).alloc _
 generalize w.alloc (.cells C.toArray 166) = w0 at HL HR0 HK0 ⊢
 go_region_held3 (fun w' => (w'.cell? ⟨b, 46, none⟩ = some (.bool (BB 0)) ∧ w'.cell? ⟨b, 47, none⟩ = some (.bool (BB 1)) ∧ w'.cell? ⟨b, 48, none⟩ = some (.bool (BB 2)) ∧ w'.cell? ⟨b, 49, none⟩ = some (.bool (BB 3)) ∧ w'.cell? ⟨b, 50, none⟩ = some (.bool (BB 4)) ∧ w'.cell? ⟨b, 51, none⟩ = some (.bool (BB 5)))) (first
     | exact H6.out _ HW1.out.wy
     | exact H6.out _ HR0.out.drew.wy) (first
   | (go_at_call 123; refine (HFE _ (show Hid _ from HR0.out.drew.wy) (show Hid _ from HL.out.drew)).mono ?_; rintro e w1 ⟨rfl, ex, fr2, hend, hl1, hk1⟩
      have HW1 : Hid (Cw w1 b g cap gs G K f BB ns F v X) := HR0.out.drew.kq hk1 hbl HV0.out
      have HK1 : Hid (Kp b v v w w1) := HK0.out.drew.kq hk1 (Nat.le_refl _)
      have HL1 : Hid (Ls w1 w.heap.size (ls ++ ex) fr2) := hl1
      have HEN : Hid (EndOk G (fsOf f) BB ls ex fr2) := hend
      clear hend hl1 hk1))
 all_goals
   obtain ⟨g1, g2, g3⟩ := HLEN.out ex fr2 HEN.out
   have hCl := lasC_len (ls ++ ex) (ls ++ ex).length fr2
   have hrg := HL1.out.range
   obtain ⟨C1, hC1⟩ : ∃ C1, C1 = lasC (ls ++ ex) (ls ++ ex).length fr2 := ⟨_, rfl⟩
   rw [<- hC1] at hCl hrg
   have HRG : Hid (w1.rangeAt w.heap.size 0 C1) := hrg
   have HWL := fun W (h : Hid (Cw W b g cap gs G K f BB ns F v X)) => wLasso_is b g cap gs G K f BB ns F fr2 (ls ++ ex) C1 hC1 v X W g1 g2 g3 hX h
   clear hC1 hrg g1 g2 g3
   go_wp2_with (first
     | (refine loadT 166 42 Tryz.size166 Tryz.row166 (by rfl) _ (by rfl) w.heap.size (by rfl) C1 HRG.out hCl ?_)
     | (go_at_call 124; refine (HWL _ HW1).mono ?_; rintro e w2 ⟨rfl, v2, hw2, hk2⟩))
   exact bodyPost_end (v := .tuple #[]) (by simp [results, Tryz.results119, go_sem]) rfl ⟨rfl, v2, ex, fr2, HEN.out, hw2, HK1.out.trans hk2⟩
end
def WaOut (t : Fm) (st b g cap gs : Nat) (G : Gph) (K : Nat -> ByteArray) (f : ByteArray) (ns : List Nd) (F : Nat -> Nat -> Bool) (v : Value) (X : List UInt8) (w : World) (e : Ending) (w' : World) : Prop :=
 e = .returned (.tuple #[]) ∧ ∃ v' c, Crt G (fsOf f) t st c ∧ c.length <= bud t ∧ Cw w' b g cap gs G K f (begP G (fsOf f)) ns F v' (X ++ c) ∧ Kp b v v' w w'
def WaAt (t : Fm) (i b g cap gs : Nat) (G : Gph) (K : Nat -> ByteArray) (f : ByteArray) (ns : List Nd) (F : Nat -> Nat -> Bool) : Prop := ∀ (W : World) (st : Nat) (v : Value) (X : List UInt8), Hid (Cw W b g cap gs G K f (begP G (fsOf f)) ns F v X) -> st < G.n -> holdsP G (fsOf f) t st = true -> X.length + bud t <= 1000000000 ->
 Calls Tryz.prog 63 #[.pointer (some ⟨b, 0, none⟩), .int .i64 (i : Int), .int .i64 (st : Int)] W fun e w' => WaOut t st b g cap gs G K f ns F v X W e w'
theorem Cw.at {w : World} {b g cap gs : Nat} {G : Gph} {K : Nat -> ByteArray} {f : ByteArray} {B : Nat -> Bool} {ns : List Nd} {F : Nat -> Nat -> Bool} {v : Value} {X : List UInt8} (h : Cw w b g cap gs G K f B ns F v X) {i sg wy li ri k : Nat} (hx : ns[i]? = some (sg, wy, li, ri, k)) : Ct5 w b g cap ns.length i sg wy li ri k :=
 ⟨(List.getElem?_eq_some_iff.1 hx).1, h.c52, h.nr.c i _ hx 0 _ rfl, h.nr.c i _ hx 1 _ rfl, h.nr.c i _ hx 2 _ rfl, h.nr.c i _ hx 3 _ rfl, h.nr.c i _ hx 4 _ rfl⟩
section
variable (b g cap gs : Nat) (G : Gph) (K : Nat -> ByteArray) (f : ByteArray) (ns : List Nd) (F : Nat -> Nat -> Bool)
theorem wPlaces_is (t : Fm) (i fr n : Nat) (ls : List Nat) (C : List Value) (hC : C = lasC ls ls.length fr) (v : Value) (X : List UInt8) (w : World) (hle : ls.length ≤ 40) (hn : n ≤ ls.length) (hlt : ∀ y ∈ ls, y < G.n) (hh : ∀ j, j < n → holdsP G (fsOf f) t (ls.getD j 0) = true) (hX : X.length + 40 * (bud t + 1) ≤ 1000000000) (HW : Hid (WaAt t i b g cap gs G K f ns F)) (HR : Hid (Cw w b g cap gs G K f (begP G (fsOf f)) ns F v X)) :
   Calls Tryz.prog 121 #[.pointer (some ⟨b, 0, none⟩), .int .i64 (i : Int), .agg C.toArray, .int .i64 (n : Int)] w fun e w' => e = .returned (.tuple #[]) ∧ ∃ v' cs, Plcs G (fsOf f) t ls n cs ∧ (comT cs).length <= 40 * (bud t + 1) ∧ Cw w' b g cap gs G K f (begP G (fsOf f)) ns F v' (X ++ comT cs) ∧ Kp b v v' w w' := by
 have hbl := HR.out.lt
 have HL : Hid (Ls (w.alloc (.cells C.toArray 166)) w.heap.size ls fr) := ls_new w hC hle 166
 have HR0 : Hid (Cw (w.alloc (.cells C.toArray 166)) b g cap gs G K f (begP G (fsOf f)) ns F v X) := HR.out.alloc _
 have HV0 : Hid (v.ownBlock ≠ some w.heap.size) := HR.out.ne (Nat.le_refl _)
 have HK0 : Hid (Kp b v v w (w.alloc (.cells C.toArray 166))) := (Kp.refl b v w).alloc _
 have HLT : Hid (∀ y ∈ ls, y < G.n) := hlt
 have HH : Hid (∀ j, j < n -> holdsP G (fsOf f) t (ls.getD j 0) = true) := hh
 have eb : w.heap.size ≠ b := by omega
 clear hC hlt hh
 obtain ⟨BT, hBT⟩ : ∃ BT, BT = bud t := ⟨_, rfl⟩
 have HBT : Hid (BT = bud t) := hBT
 rw [<- hBT] at hX
 rw [<- hBT]
 clear hBT
 go_enter Tryz.func121, Tryz.ntmps121
 go_wp2_with fail
 go_loopw [8] (fun q wr => ∃ (k : Nat) (vv : Value) (cs : List (List UInt8)), k <= n ∧ q = .int .i64 k ∧ Hid (Plcs G (fsOf f) t ls k cs) ∧ (comT cs).length <= k * (BT + 1) ∧ Hid (Cw wr b g cap gs G K f (begP G (fsOf f)) ns F vv (X ++ comT cs)) ∧ Hid (Kp b v vv w wr) ∧ Hid (Ls wr w.heap.size ls fr) ∧ Hid (vv.ownBlock ≠ some w.heap.size)) (fun q _ => n - (intOf q).toNat)
 case atStart => exact ⟨0, v, [], by omega, rfl, Plcs.nil _ _ _ _, by simp [comT], by simpa [comT] using HR0, HK0, HL, HV0⟩
 case round =>
   clear HR0 HK0 HL HV0
   obtain ⟨k, vv, cs, hk, rfl, HP, hcl, HWr, HK, HLr, HV⟩ := hrel
   have hwr : w.heap.size < wr.heap.size := HLr.out.lt
   by_cases hlt : k < n
   · have hlt2 : (k : Int) < (n : Int) := by omega
     have k0 : (0 : Int) <= (k : Int) := by omega
     have k1 : (k : Int) < 40 := by omega
     have hm : (k + 1) * (BT + 1) <= 40 * (BT + 1) := Nat.mul_le_mul_right _ (by omega)
     have hm1 : (k + 1) * (BT + 1) = k * (BT + 1) + (BT + 1) := Nat.succ_mul _ _
     have hXk : (X ++ comT cs).length + (BT + 1) <= 1000000000 := by rw [List.length_append]; omega
     have hxn : ls.getD k 0 < G.n := getD_lt HLT.out (by omega)
     have hxh := HH.out k hlt
     obtain ⟨x, hx⟩ : ∃ x, x = ls.getD k 0 := ⟨_, rfl⟩
     have HXE : Hid (x = ls.getD k 0) := hx
     rw [<- hx] at hxn hxh
     clear hx
     have HXH : Hid (holdsP G (fsOf f) t x = true) := hxh
     clear hxh
     go_wp2_with fail
     refine (putN b g cap gs G K f (begP G (fsOf f)) ns F 44 44 vv _ _ rfl (by omega) (by omega) HWr).mono ?_
     rintro e w2 ⟨rfl, v2, hw2, hk2⟩
     have HW2 : Hid (Cw w2 b g cap gs G K f (begP G (fsOf f)) ns F v2 (X ++ comT cs ++ [b8 44])) := hw2
     have HL2 : Hid (Ls w2 w.heap.size ls fr) := hk2.ls HLr.out eb HV.out
     have HV2 : Hid (v2.ownBlock ≠ some w.heap.size) := own_ne hk2 hwr HV.out
     have HK2 : Hid (Kp b v v2 w w2) := HK.out.trans hk2
     have ck : w2.cell? ⟨w.heap.size, k, none⟩ = some (.int .i64 (x : Int)) := by rw [HXE.out]; exact HL2.out.c k (by omega)
     have hwr2 : w.heap.size < w2.heap.size := HL2.out.lt
     clear hw2 hk2
     go_wp2_with fail
     refine (HW.out _ x v2 _ HW2 hxn HXH.out (by have := HBT.out; simp only [List.length_append, List.length_cons, List.length_nil] at hXk ⊢; omega)).mono ?_
     rintro e w3 ⟨rfl, v3, c, hcrt, hcb, hw3, hk3⟩
     have HCR : Hid (Crt G (fsOf f) t x c) := hcrt
     have HW3 : Hid (Cw w3 b g cap gs G K f (begP G (fsOf f)) ns F v3 (X ++ comT (cs ++ [c]))) := by
       show Cw _ _ _ _ _ _ _ _ _ _ _ _ _
       have : X ++ comT (cs ++ [c]) = X ++ comT cs ++ [b8 44] ++ c := by rw [comT_snoc]; simp; rfl
       rw [this]
       exact hw3
     have HL3 : Hid (Ls w3 w.heap.size ls fr) := hk3.ls HL2.out eb HV2.out
     have HV3 : Hid (v3.ownBlock ≠ some w.heap.size) := own_ne hk3 hwr2 HV2.out
     have HK3 : Hid (Kp b v v3 w w3) := HK2.out.trans hk3
     have hcb2 : c.length <= BT := by have := HBT.out; omega
     clear hcrt hw3 hk3 hcb
     go_wp2_with fail
     go_roundw
     case rel =>
       refine ⟨k + 1, v3, cs ++ [c], by omega, by go_num, HP.out.snoc (by rw [<- HXE.out]; exact HCR.out), ?_, HW3, HK3, HL3, HV3⟩
       rw [comT_snoc, List.length_append, List.length_cons]
       omega
     case measure => simp [intOf]; omega
   · obtain rfl : k = n := by omega
     have hlt2 : ¬ (k : Int) < (k : Int) := by omega
     have hm : k * (BT + 1) <= 40 * (BT + 1) := Nat.mul_le_mul_right _ (by omega)
     go_wp2_with fail
     exact bodyPost_end (v := .tuple #[]) (by simp [results, Tryz.results121, go_sem]) rfl ⟨rfl, vv, cs, HP.out, by omega, HWr.out, HK.out⟩
theorem one_W (l r : Fm) (wy li ri k st : Nat) (u : Unit) (v : Value) (X : List UInt8) (w : World) (hst : st < G.n) (hli : li < ns.length) (hFl : ∀ j, F li j = holdsP G (fsOf f) l j) (hh : holdsP G (fsOf f) l st = true ∨ holdsP G (fsOf f) r st = true) (hX : X.length + bud (.node 43 wy u l r) ≤ 1000000000) (HL : Hid (WaAt l li b g cap gs G K f ns F)) (HRR : Hid (WaAt r ri b g cap gs G K f ns F)) (HR : Hid (Cw w b g cap gs G K f (begP G (fsOf f)) ns F v X)) :
   Calls Tryz.prog 94 #[.pointer (some ⟨b, 0, none⟩), .agg #[.int .u8 43, .int .u8 (wy : Int), .int .i64 (li : Int), .int .i64 (ri : Int), .int .i64 (k : Int)], .int .i64 (st : Int)] w fun e w' => WaOut (.node 43 wy u l r) st b g cap gs G K f ns F v X w e w' := by
 have hbl := HR.out.lt
 have hn6 := HR.out.wy.n6
 have eb : w.heap.size ≠ b := by omega
 have HV0 : Hid (v.ownBlock ≠ some w.heap.size) := HR.out.ne (Nat.le_refl _)
 rw [bud_or] at hX
 have st6 : st < 6 := by omega
 have s0 : (0 : Int) <= (st : Int) := by omega
 have s1 : (st : Int) < 6 := by omega
 have l0 : (0 : Int) <= (li : Int) := by omega
 have l1 : (li : Int) < (ns.length : Int) := by omega
 go_enter Tryz.func94, Tryz.ntmps94
 go_wp2_with fail
 generalize hW : w.alloc (Obj.cells #[Value.int IntKind.u8 43, Value.int IntKind.u8 (wy : Int), Value.int IntKind.i64 (li : Int), Value.int IntKind.i64 (ri : Int), Value.int IntKind.i64 (k : Int)] 96) = w0
 have n2 : w0.cell? ⟨w.heap.size, 2, none⟩ = some (.int .i64 (li : Int)) := by rw [<- hW]; simp
 have n3 : w0.cell? ⟨w.heap.size, 3, none⟩ = some (.int .i64 (ri : Int)) := by rw [<- hW]; simp
 have HR0 : Hid (Cw w0 b g cap gs G K f (begP G (fsOf f)) ns F v X) := by show Cw _ _ _ _ _ _ _ _ _ _ _ _ _; rw [<- hW]; exact HR.out.alloc _
 have HK0 : Hid (Kp b v v w w0) := by show Kp _ _ _ _ _; rw [<- hW]; exact (Kp.refl b v w).alloc _
 have hlt0 : w.heap.size < w0.heap.size := by rw [<- hW]; simp
 clear hW
 have c53 := HR0.out.c53
 have cst := HR0.out.tb.c li st hli st6
 rw [hFl st] at cst
 obtain ⟨y, hy⟩ : ∃ y, holdsP G (fsOf f) l st = y := ⟨_, rfl⟩
 have HY : Hid (holdsP G (fsOf f) l st = y) := hy
 have HH : Hid (holdsP G (fsOf f) l st = true ∨ holdsP G (fsOf f) r st = true) := hh
 rw [hy] at cst
 clear hy hh
 cases y with
 | true =>
   go_region
   all_goals
     go_wp2_with fail
     refine (putN b g cap gs G K f (begP G (fsOf f)) ns F 60 60 v X _ rfl (by omega) (by omega) (show Hid _ from HR0.out.drew)).mono ?_
     rintro e w2 ⟨rfl, v2, hw2, hk2⟩
     have HW2 : Hid (Cw w2 b g cap gs G K f (begP G (fsOf f)) ns F v2 (X ++ [b8 60])) := hw2
     have m2 : w2.cell? ⟨w.heap.size, 2, none⟩ = some (.int .i64 (li : Int)) := (hk2.cell hlt0 eb HV0.out 2).trans n2
     have HK2 : Hid (Kp b v v2 w w2) := HK0.out.drew.trans hk2
     clear hw2 hk2
     go_wp2_with fail
     refine (HL.out _ st v2 _ HW2 hst HY.out (by simp only [List.length_append, List.length_cons, List.length_nil]; omega)).mono ?_
     rintro e w3 ⟨rfl, v3, c, hcrt, hcb, hw3, hk3⟩
     go_wp2_with fail
     refine bodyPost_ret (v := .tuple #[]) (by simp [results, Tryz.results94, go_sem]) rfl ⟨rfl, v3, 60 :: c, crt_or1 hcrt, by rw [bud_or, List.length_cons]; omega, ?_, HK2.out.trans hk3⟩
     have : X ++ 60 :: c = X ++ [b8 60] ++ c := by simp; rfl
     rw [this]
     exact hw3
 | false =>
   have HZ : Hid (holdsP G (fsOf f) r st = true) := by
     rcases HH.out with h | h
     · rw [HY.out] at h; cases h
     · exact h
   go_region
   all_goals
     go_wp2_with fail
     refine (putN b g cap gs G K f (begP G (fsOf f)) ns F 62 62 v X _ rfl (by omega) (by omega) (show Hid _ from HR0.out.drew)).mono ?_
     rintro e w2 ⟨rfl, v2, hw2, hk2⟩
     have HW2 : Hid (Cw w2 b g cap gs G K f (begP G (fsOf f)) ns F v2 (X ++ [b8 62])) := hw2
     have m3 : w2.cell? ⟨w.heap.size, 3, none⟩ = some (.int .i64 (ri : Int)) := (hk2.cell hlt0 eb HV0.out 3).trans n3
     have HK2 : Hid (Kp b v v2 w w2) := HK0.out.drew.trans hk2
     clear hw2 hk2
     go_wp2_with fail
     refine (HRR.out _ st v2 _ HW2 hst HZ.out (by simp only [List.length_append, List.length_cons, List.length_nil]; omega)).mono ?_
     rintro e w3 ⟨rfl, v3, c, hcrt, hcb, hw3, hk3⟩
     go_wp2_with fail
     refine bodyPost_end (v := .tuple #[]) (by simp [results, Tryz.results94, go_sem]) rfl ⟨rfl, v3, 62 :: c, crt_or2 hcrt, by rw [bud_or, List.length_cons]; omega, ?_, HK2.out.trans hk3⟩
     have : X ++ 62 :: c = X ++ [b8 62] ++ c := by simp; rfl
     rw [this]
     exact hw3
end
section
variable (b g cap gs : Nat) (G : Gph) (K : Nat -> ByteArray) (f : ByteArray) (ns : List Nd) (F : Nat -> Nat -> Bool)
theorem next_W (l r : Fm) (wy li ri k st : Nat) (u : Unit) (v : Value) (X : List UInt8) (w : World) (ok : G.ok) (hf : f.size ≤ 2) (hst : st < G.n) (hli : li < ns.length) (hFl : ∀ j, F li j = holdsP G (fsOf f) l j) (ha : ahd G.e (fun j => holdsP G (fsOf f) l j && begP G (fsOf f) j) st = true) (hX : X.length + bud (.node 88 wy u l r) ≤ 1000000000) (HL : Hid (WaAt l li b g cap gs G K f ns F)) (HR : Hid (Cw w b g cap gs G K f (begP G (fsOf f)) ns F v X)) :
   Calls Tryz.prog 95 #[.pointer (some ⟨b, 0, none⟩), .agg #[.int .u8 88, .int .u8 (wy : Int), .int .i64 (li : Int), .int .i64 (ri : Int), .int .i64 (k : Int)], .int .i64 (st : Int)] w fun e w' => WaOut (.node 88 wy u l r) st b g cap gs G K f ns F v X w e w' := by
 have hbl := HR.out.lt
 have hn6 := HR.out.wy.n6
 have eb : w.heap.size ≠ b := by omega
 have HV0 : Hid (v.ownBlock ≠ some w.heap.size) := HR.out.ne (Nat.le_refl _)
 have HVN : Hid (∀ k, w.heap.size <= k -> v.ownBlock ≠ some k) := fun k hk => HR.out.ne hk
 have st6 : st < 6 := by omega
 have s0 : (0 : Int) <= (st : Int) := by omega
 have s1 : (st : Int) < 6 := by omega
 have l0 : (0 : Int) <= (li : Int) := by omega
 have l1 : (li : Int) < (ns.length : Int) := by omega
 rw [bud_x] at hX
 obtain ⟨SL, hSL⟩ : ∃ SL, SL = holdsP G (fsOf f) l := ⟨_, rfl⟩
 obtain ⟨BB, hBB⟩ : ∃ BB, BB = begP G (fsOf f) := ⟨_, rfl⟩
 have HSE : Hid (SL = holdsP G (fsOf f) l) := hSL
 have HBE : Hid (BB = begP G (fsOf f)) := hBB
 have HT6 : Hid (∀ W : World, Tab W gs ns.length F -> (fun w' => (w'.cell? ⟨gs, li * 6, none⟩ = some (.bool (SL 0)) ∧ w'.cell? ⟨gs, li * 6 + 1, none⟩ = some (.bool (SL 1)) ∧ w'.cell? ⟨gs, li * 6 + 2, none⟩ = some (.bool (SL 2)) ∧ w'.cell? ⟨gs, li * 6 + 3, none⟩ = some (.bool (SL 3)) ∧ w'.cell? ⟨gs, li * 6 + 4, none⟩ = some (.bool (SL 4)) ∧ w'.cell? ⟨gs, li * 6 + 5, none⟩ = some (.bool (SL 5)))) W) := fun W h => by
   have hc := fun j (hj : j < 6) => h.c li j hli hj
   have e : ∀ j, F li j = SL j := fun j => by rw [hSL]; exact hFl j
   simp only [e] at hc
   exact ⟨hc 0 (by omega), hc 1 (by omega), hc 2 (by omega), hc 3 (by omega), hc 4 (by omega), hc 5 (by omega)⟩
 have HB6 : Hid (∀ W : World, Wy W b 0 G K f (begP G (fsOf f)) -> (fun w' => (w'.cell? ⟨b, 46, none⟩ = some (.bool (BB 0)) ∧ w'.cell? ⟨b, 47, none⟩ = some (.bool (BB 1)) ∧ w'.cell? ⟨b, 48, none⟩ = some (.bool (BB 2)) ∧ w'.cell? ⟨b, 49, none⟩ = some (.bool (BB 3)) ∧ w'.cell? ⟨b, 50, none⟩ = some (.bool (BB 4)) ∧ w'.cell? ⟨b, 51, none⟩ = some (.bool (BB 5)))) W) := fun W h => by
   have := h.begin
   rw [<- hBB] at this
   simp only [Nat.zero_add] at this
   exact this
 have HBO := fun W => bothP_is SL BB W
 have hah : ahd G.e (fun j => SL j && BB j) st = true := by rw [hSL, hBB]; exact ha
 obtain ⟨E, hE⟩ : ∃ E, E = fun j => SL j && BB j := ⟨_, rfl⟩
 have HEE : Hid (E = fun j => SL j && BB j) := hE
 rw [<- hE] at HBO hah
 have HNX := fun W (h : Hid (Wy W b 0 G K f (begP G (fsOf f)))) => nextIn_is b 0 st G K f (begP G (fsOf f)) E st6 hah W h
 have HOK : Hid (G.ok) := ok
 clear hSL hBB hE ha hah hFl ok
 go_enter Tryz.func95, Tryz.ntmps95
 go_wp2_with fail
 generalize hW : w.alloc (Obj.cells #[Value.int IntKind.u8 88, Value.int IntKind.u8 (wy : Int), Value.int IntKind.i64 (li : Int), Value.int IntKind.i64 (ri : Int), Value.int IntKind.i64 (k : Int)] 96) = w0
 have n2 : w0.cell? ⟨w.heap.size, 2, none⟩ = some (.int .i64 (li : Int)) := by rw [<- hW]; simp
 have n3 : w0.cell? ⟨w.heap.size, 3, none⟩ = some (.int .i64 (ri : Int)) := by rw [<- hW]; simp
 have HR0 : Hid (Cw w0 b g cap gs G K f (begP G (fsOf f)) ns F v X) := by show Cw _ _ _ _ _ _ _ _ _ _ _ _ _; rw [<- hW]; exact HR.out.alloc _
 have HK0 : Hid (Kp b v v w w0) := by show Kp _ _ _ _ _; rw [<- hW]; exact (Kp.refl b v w).alloc _
 have hlt0 : w.heap.size < w0.heap.size := by rw [<- hW]; simp
 clear hW
 have HK : Hid (∀ w', Below w0.heap.size w0 w' -> (fun w' => w'.cell? ⟨b, 53, none⟩ = some (.slice (some ⟨gs, 0, none⟩) ns.length ns.length) ∧ w'.cell? ⟨w.heap.size, 2, none⟩ = some (.int .i64 (li : Int)) ∧ (w'.cell? ⟨gs, li * 6, none⟩ = some (.bool (SL 0)) ∧ w'.cell? ⟨gs, li * 6 + 1, none⟩ = some (.bool (SL 1)) ∧ w'.cell? ⟨gs, li * 6 + 2, none⟩ = some (.bool (SL 2)) ∧ w'.cell? ⟨gs, li * 6 + 3, none⟩ = some (.bool (SL 3)) ∧ w'.cell? ⟨gs, li * 6 + 4, none⟩ = some (.bool (SL 4)) ∧ w'.cell? ⟨gs, li * 6 + 5, none⟩ = some (.bool (SL 5))) ∧ (w'.cell? ⟨b, 46, none⟩ = some (.bool (BB 0)) ∧ w'.cell? ⟨b, 47, none⟩ = some (.bool (BB 1)) ∧ w'.cell? ⟨b, 48, none⟩ = some (.bool (BB 2)) ∧ w'.cell? ⟨b, 49, none⟩ = some (.bool (BB 3)) ∧ w'.cell? ⟨b, 50, none⟩ = some (.bool (BB 4)) ∧ w'.cell? ⟨b, 51, none⟩ = some (.bool (BB 5)))) w') := fun w' h => ⟨(HR0.out.below h).c53, (h.cell (p := ⟨w.heap.size, 2, none⟩) hlt0).trans n2, HT6.out _ (HR0.out.below h).tb, HB6.out _ (HR0.out.below h).wy⟩
 go_region_held3 (fun w' => w'.cell? ⟨b, 53, none⟩ = some (.slice (some ⟨gs, 0, none⟩) ns.length ns.length) ∧ w'.cell? ⟨w.heap.size, 2, none⟩ = some (.int .i64 (li : Int)) ∧ (w'.cell? ⟨gs, li * 6, none⟩ = some (.bool (SL 0)) ∧ w'.cell? ⟨gs, li * 6 + 1, none⟩ = some (.bool (SL 1)) ∧ w'.cell? ⟨gs, li * 6 + 2, none⟩ = some (.bool (SL 2)) ∧ w'.cell? ⟨gs, li * 6 + 3, none⟩ = some (.bool (SL 3)) ∧ w'.cell? ⟨gs, li * 6 + 4, none⟩ = some (.bool (SL 4)) ∧ w'.cell? ⟨gs, li * 6 + 5, none⟩ = some (.bool (SL 5))) ∧ (w'.cell? ⟨b, 46, none⟩ = some (.bool (BB 0)) ∧ w'.cell? ⟨b, 47, none⟩ = some (.bool (BB 1)) ∧ w'.cell? ⟨b, 48, none⟩ = some (.bool (BB 2)) ∧ w'.cell? ⟨b, 49, none⟩ = some (.bool (BB 3)) ∧ w'.cell? ⟨b, 50, none⟩ = some (.bool (BB 4)) ∧ w'.cell? ⟨b, 51, none⟩ = some (.bool (BB 5)))) (first
     | exact HK.out _ hc6
     | exact HK.out _ hc5
     | exact HK.out _ (Below.al hc5)
     | exact HK.out _ (Below.refl _ _).drew
     | exact HK.out _ (Below.al (Below.refl _ _).drew)) (first
   | (go_at_call 105; refine (HBO _).mono ?_; rintro e w5 ⟨rfl, hb5⟩
      have hc5 : Below w0.heap.size w0 w5 := by first | exact Below.dr hb5 | exact Below.dr (Below.past hb5)
      first
        | (have HP5 : Arr w5 w0.heap.size 6 (fun _ => false) := (arr_at w0.drew (fun _ => false) 65 _ rfl).below hb5 (by simp)
           obtain ⟨w6, hrun6, hb6, hz6, hk6, HR6⟩ := stores6 HP5 E)
        | (obtain ⟨w6, hrun6, hb6, hz6, hk6, HR6⟩ := stores6 (arr_zero w5 65) E)
      have hc6 : Below w0.heap.size w0 w6 := by
        first
          | exact hc5.trans (hb6.mono (by first | exact Nat.le_refl _ | exact hc5.size))
          | exact (Below.al hc5).trans (hb6.mono (by first | exact Nat.le_refl _ | exact hc5.size))))
 all_goals
   have HP6 : Hid (Arr w6 _ 6 _) := HR6
   have q7 : w0.heap.size <= Arr.blk HP6 := by first | exact Nat.le_refl _ | exact hc5.size
   have HW6 : Hid (Cw w6 b g cap gs G K f (begP G (fsOf f)) ns F v X) := HR0.out.below hc6
   have HK6 : Hid (Kp b v v w w6) := HK0.out.new hc6
   have m2 : w6.cell? ⟨w.heap.size, 2, none⟩ = some (.int .i64 (li : Int)) := (hc6.cell (p := ⟨w.heap.size, 2, none⟩) hlt0).trans n2
   have m3 : w6.cell? ⟨w.heap.size, 3, none⟩ = some (.int .i64 (ri : Int)) := (hc6.cell (p := ⟨w.heap.size, 3, none⟩) hlt0).trans n3
   have hlt6 : w.heap.size < w6.heap.size := Nat.lt_of_lt_of_le hlt0 hc6.size
   clear HK hrun6 hb6 hz6 hk6 HR6
   obtain ⟨Q, hQ⟩ : ∃ Q, Q = Arr.blk HP6 := ⟨_, rfl⟩
   have HQ6 : Hid (Arr w6 Q 6 E) := by rw [hQ]; exact HP6.out
   rw [<- hQ] at q7
   simp only [Arr.blk] at hQ
   clear HP6
   go_wp2_with fail
   rw [<- hQ]
   clear hQ hc6 hc5 hb5
   go_region_held3 (fun w' => (w'.cell? ⟨Q, 0, none⟩ = some (.bool (E 0)) ∧ w'.cell? ⟨Q, 1, none⟩ = some (.bool (E 1)) ∧ w'.cell? ⟨Q, 2, none⟩ = some (.bool (E 2)) ∧ w'.cell? ⟨Q, 3, none⟩ = some (.bool (E 3)) ∧ w'.cell? ⟨Q, 4, none⟩ = some (.bool (E 4)) ∧ w'.cell? ⟨Q, 5, none⟩ = some (.bool (E 5)))) (first
       | exact cells1 HQ7.out
       | exact cells1 HQ6.out.drew) (first
     | (go_at_call 116; refine (HNX _ (show Hid _ from HW6.out.drew.wy)).mono ?_; rintro e w7 ⟨jj, rfl, hej, hEj, hb7⟩
        have HQ7 : Hid (Arr w7 Q 6 E) := HQ6.out.drew.below hb7 HQ6.out.drew.lt
        have HW7 : Hid (Cw w7 b g cap gs G K f (begP G (fsOf f)) ns F v X) := HW6.out.drew.below hb7
        have HK7 : Hid (Kp b v v w w7) := HK6.out.drew.new hb7
        have HEJ : Hid (G.e st jj = true) := hej
        have HDJ : Hid (E jj = true) := hEj
        have hb67 : Below w6.heap.size w6 w7 := Below.dr hb7
        clear hb7 hej hEj))
   all_goals
     have m2 : w7.cell? ⟨w.heap.size, 2, none⟩ = some (.int .i64 (li : Int)) := (hb67.cell (p := ⟨w.heap.size, 2, none⟩) hlt6).trans m2
     have m3 : w7.cell? ⟨w.heap.size, 3, none⟩ = some (.int .i64 (ri : Int)) := (hb67.cell (p := ⟨w.heap.size, 3, none⟩) hlt6).trans m3
     have hlt7 : w.heap.size < w7.heap.size := Nat.lt_of_lt_of_le hlt6 hb67.size
     have hjn : jj < G.n := (HOK.out _ _ HEJ.out).2
     have hjh : holdsP G (fsOf f) l jj = true ∧ begP G (fsOf f) jj = true := by
       have := HDJ.out
       rw [HEE.out, HSE.out, HBE.out, Bool.and_eq_true] at this
       exact this
     have HJH : Hid (holdsP G (fsOf f) l jj = true) := hjh.1
     have HJB : Hid (begP G (fsOf f) jj = true) := hjh.2
     clear hjh hb67
     go_wp2_with (first
       | (go_at_call 117; refine (lassoFrom_is st _).mono ?_; rintro e w8 ⟨C, rfl, hC, hb8⟩
          have hCl : C.length = 42 := by rw [hC, lasC_len]
          have HCO : Hid (C.toArray.all (·.oneCell') = true) := by rw [hC]; exact lasC_one _ _ _
          have HCE : Hid (C = lasC [st] [st].length 0) := hC
          have hCs : C.toArray.size = 42 := by simp [hCl]
          clear hC)
       | (refine storeAt 166 42 Tryz.size166 (by rfl) _ _ (by rfl) w8.heap.size 0 C.toArray (by rfl) (by rfl) (there_newG _ _ _ 42 rfl) hCs HCO.out ?_; intro w9 hb9 hz9 hk9 hr9 ho9 hf9
          have hb79 : Below w7.heap.size w7 w9 := Below.to hb8 (((Below.refl _ _).alloc (Nat.le_refl _) _).trans hb9)
          have HW9 : Hid (Cw w9 b g cap gs G K f (begP G (fsOf f)) ns F v X) := HW7.out.below hb79
          have HK9 : Hid (Kp b v v w w9) := HK7.out.new hb79
          have HL9 : Hid (Ls w9 w8.heap.size [st] 0) := way_new hz9 hr9 hf9 (fz_new _ _ _) HCE.out (by simp)
          have p2 : w9.cell? ⟨w.heap.size, 2, none⟩ = some (.int .i64 (li : Int)) := (hb79.cell (p := ⟨w.heap.size, 2, none⟩) hlt7).trans m2
          have p3 : w9.cell? ⟨w.heap.size, 3, none⟩ = some (.int .i64 (ri : Int)) := (hb79.cell (p := ⟨w.heap.size, 3, none⟩) hlt7).trans m3
          have h78 : w7.heap.size <= w8.heap.size := hb8.size
          clear hb8 hb9 hz9 hk9 hr9 ho9 hf9)
       | (go_at_call 118; refine (add_is w8.heap.size 0 jj [st] _ (by simp) HL9).mono ?_; rintro e w10 ⟨rfl, hl10, hk10, hz10⟩
          have HW10 : Hid (Cw w10 b g cap gs G K f (begP G (fsOf f)) ns F v X) := HW9.out.kq hk10 (by omega) (HVN.out _ (by omega))
          have HK10 : Hid (Kp b v v w w10) := HK9.out.kq hk10 (by omega)
          have HL10 : Hid (Ls w10 w8.heap.size ([st] ++ [jj]) 0) := hl10
          have r2 : w10.cell? ⟨w.heap.size, 2, none⟩ = some (.int .i64 (li : Int)) := (hk10.cell (by have := HL9.out.lt; omega) (by omega) 2).trans p2
          have hlt10 : w.heap.size < w10.heap.size := by have := HL10.out.lt; omega
          have hCl2 : (lasC ([st] ++ [jj]) ([st] ++ [jj]).length 0).length = 42 := lasC_len _ _ _
          have hrg := HL10.out.range
          obtain ⟨C2, hC2⟩ : ∃ C2, C2 = lasC ([st] ++ [jj]) ([st] ++ [jj]).length 0 := ⟨_, rfl⟩
          rw [<- hC2] at hCl2 hrg
          have HRG : Hid (w10.rangeAt w8.heap.size 0 C2) := hrg
          have HWO := fun W (h : Hid (Cw W b g cap gs G K f (begP G (fsOf f)) ns F v X)) => wOnward_is b g cap gs G K f ns F 0 ([st] ++ [jj]) C2 hC2 v X W HOK.out (by simp) hf (by simp) (by intro y hy; simp at hy; rcases hy with rfl | rfl <;> assumption) (by rw [lastL_snoc]; exact HJB.out) (by omega) h
          clear hl10 hk10 hz10 hrg hC2)
       | (refine loadT 166 42 Tryz.size166 Tryz.row166 (by rfl) _ (by rfl) w8.heap.size (by rfl) C2 HRG.out hCl2 ?_)
       | (go_at_call 119; refine (HWO _ HW10).mono ?_; rintro e w11 ⟨rfl, v11, ex, fr2, hend, hw11, hk11⟩
          have hlas : LasOk G (fsOf f) st ([st] ++ [jj] ++ ex) fr2 := hend.las (by simp) (by simp) (walk_cons HEJ.out (walk_one G jj)) (by intro y hy; simp at hy; rcases hy with rfl | rfl <;> assumption) (by simp) (by rw [fs_len]; exact hf)
          have HLA : Hid (LasOk G (fsOf f) st ([st] ++ [jj] ++ ex) fr2) := hlas
          have hl40 : (lasT ([st] ++ [jj] ++ ex) fr2).length <= 44 := by rw [lasT_len]; have := hlas.2.1; omega
          have HW11 : Hid (Cw w11 b g cap gs G K f (begP G (fsOf f)) ns F v11 (X ++ lasT ([st] ++ [jj] ++ ex) fr2)) := hw11
          have HK11 : Hid (Kp b v v11 w w11) := HK10.out.trans hk11
          have t2 : w11.cell? ⟨w.heap.size, 2, none⟩ = some (.int .i64 (li : Int)) := (hk11.cell hlt10 eb HV0.out 2).trans r2
          clear hend hw11 hk11 hlas)
       | (go_at_call 63; refine (HL.out _ jj v11 _ HW11 hjn HJH.out (by rw [List.length_append]; omega)).mono ?_; rintro e w12 ⟨rfl, v12, c, hcrt, hcb, hw12, hk12⟩))
     refine bodyPost_end (v := .tuple #[]) (by simp [results, Tryz.results95, go_sem]) rfl ⟨rfl, v12, lasT ([st] ++ [jj] ++ ex) fr2 ++ c, crt_x HLA.out hcrt, by rw [bud_x, List.length_append]; omega, ?_, HK11.out.trans hk12⟩
     rw [<- List.append_assoc]
     exact hw12
end
end Go.Proofs.YtcfbfdjmcabnkabGreat
