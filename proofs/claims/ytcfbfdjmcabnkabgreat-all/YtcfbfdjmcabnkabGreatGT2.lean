import Derived.Deep.RegionHeld3
import Derived.Test.YtcfbfdjmcabnkabGreatGT1
import Derived.Test.YtcfbfdjmcabnkabGreatG7
set_option maxRecDepth 100000
set_option maxHeartbeats 4000000
namespace Go.Proofs.YtcfbfdjmcabnkabGreat
open Go.RowKit Fw
open Go.Deep (BT)
set_option linter.unusedVariables false
def ints (l : List Nat) : List Value := l.map fun (x : Nat) => Value.int .i64 ((x : Nat) : Int)
theorem ints_snoc (l : List Nat) (x : Nat) : ints (l ++ [x]) = ints l ++ [.int .i64 (x : Int)] := by simp [ints]
theorem u8_small (D : Nat) (h : D < 256) : IntKind.u8.wrap (D : Int) = (D : Int) := by
 simp [IntKind.wrap, IntKind.bits, IntKind.signed]
 omega
theorem col_len (s : ByteArray) (o a : Nat) : ∀ k, (col s o a k).length <= k := by
 intro k
 induction k with
 | zero => simp [col]
 | succ k ih => rw [col]; split <;> simp <;> omega
def DgR (s : ByteArray) (o a k : Nat) : Prop := ∀ j, j < k -> a + j ≠ o -> 48 <= byteAt s (a + j) ∧ byteAt s (a + j) <= 57
structure Lg (s : ByteArray) (o a k F H : Nat) (w wr : World) (v : Value) : Prop where
 own : wr.ownsRow (H + 2) 3 1 v (col s o a k).length (ints (col s o a k))
 v0 : wr.cell? ⟨H + 1, 0, none⟩ = some v
 v1 : wr.cell? ⟨H + 1, 1, none⟩ = some (.int .i64 (F : Int))
 z0 : wr.frozen? ⟨H + 1, 0, none⟩ = false
 r0 : wr.cell? ⟨H, 0, none⟩ = some (.slice none 0 0)
 r1 : wr.cell? ⟨H, 1, none⟩ = some (.int .i64 0)
 y0 : wr.frozen? ⟨H, 0, none⟩ = false
 y1 : wr.frozen? ⟨H, 1, none⟩ = false
 bel : Below H w wr
 hz : H + 2 <= wr.heap.size
 dg : DgR s o a k
theorem Lg.next {s : ByteArray} {o a k F H gg cap2 D : Nat} {w wr w1 : World} {v : Value} {ob : Obj} (h : Lg s o a k F H w wr v) (hne : a + k ≠ o) (hD : D = byteAt s (a + k) - 48) (h1 : 48 <= byteAt s (a + k)) (h2 : byteAt s (a + k) <= 57)
   (hown : w1.ownsRow (H + 2) 3 1 (.slice (some ⟨gg, 0, none⟩) ((col s o a k).length + 1) cap2) ((col s o a k).length + 1) (ints (col s o a k) ++ [.int .i64 (D : Int)]))
   (hgrow : (wr.alloc ob).drew.grownBy w1 v.ownBlock) :
   Lg s o a (k + 1) F H w (w1.setCell ⟨H + 1, 0, none⟩ (.slice (some ⟨gg, 0, none⟩) ((col s o a k).length + 1) cap2)) (.slice (some ⟨gg, 0, none⟩) (col s o a (k + 1)).length cap2) := by
 obtain ⟨a1, a2, a3, a4, a5, a6, a7, a8, a9, a10, a11⟩ := h
 have hc : col s o a (k + 1) = col s o a k ++ [D] := by rw [col, if_neg hne, hD]
 have hl : (col s o a (k + 1)).length = (col s o a k).length + 1 := by rw [hc]; simp
 have ab : ∀ b, b < H + 2 -> some b ≠ v.ownBlock := fun b hb e => by have := (a1.lt _ e.symm).1; omega
 have hsz : wr.heap.size + 1 <= w1.heap.size := by have := hgrow.size; simpa using this
 have cc : ∀ b j, b < H + 2 -> w1.cell? ⟨b, j, none⟩ = wr.cell? ⟨b, j, none⟩ := fun b j hb => (hgrow.cell_far ⟨b, j, none⟩ (by simp; omega) (ab b hb)).trans (World.cell?_of_block (w := wr) (Below.heap_alloc _ _ _ (by show b < _; omega)))
 have ff : ∀ b j, b < H + 2 -> w1.frozen? ⟨b, j, none⟩ = wr.frozen? ⟨b, j, none⟩ := fun b j hb => (hgrow.frozen_far ⟨b, j, none⟩ (by simp; omega) (ab b hb)).trans (World.frozen?_of_block (w := wr) (Below.heap_alloc _ _ _ (by show b < _; omega)))
 have hbel : Below H w w1 := Below.grown ((a9.alloc (by have := a9.size; omega) _).drew) hgrow (by simp; omega) (fun j hj => by have := (a1.lt _ hj).1; omega)
 rw [hl]
 refine ⟨?_, ?_, ?_, ?_, ?_, ?_, ?_, ?_, ?_, ?_, ?_⟩
 · have := ownsRow_setCell_below hown (a := ⟨H + 1, 0, none⟩) (by simp) (.slice (some ⟨gg, 0, none⟩) ((col s o a k).length + 1) cap2)
   rw [hl, hc, ints_snoc]
   simpa using this
 · exact cell_sameY ((cc (H + 1) 0 (by omega)).trans a2)
 · rw [cell_otherY (addr_ne3 (by omega)), cc _ _ (by omega)]; exact a3
 · rw [World.frozen?_setCell, ff _ _ (by omega)]; exact a4
 · rw [cell_otherY (addr_nb (by omega)), cc _ _ (by omega)]; exact a5
 · rw [cell_otherY (addr_nb (by omega)), cc _ _ (by omega)]; exact a6
 · rw [World.frozen?_setCell, ff _ _ (by omega)]; exact a7
 · rw [World.frozen?_setCell, ff _ _ (by omega)]; exact a8
 · exact hbel.setCell (by simp) _
 · simp; omega
 · intro j hj hne2
   by_cases e : j = k
   · subst e; exact ⟨h1, h2⟩
   · exact a11 j (by omega) hne2
theorem las_fin {s : ByteArray} {p O S F : Nat} {w wr : World} {a : Option Addr} {cap : Nat} (hA : isAt s p 91 = true) (hB : BrR s p) (hS : S = sht s p) (hO : O = opn s p) (hF : F = O - p - 1)
   (h : Lg s O (p + 1) (S - p - 1) F w.heap.size w wr (.slice a (col s O (p + 1) (S - p - 1)).length cap)) (u v : Value) :
   LrOut s p w (.returned (.tuple #[.agg #[.slice a (col s O (p + 1) (S - p - 1)).length cap, .int .i64 (F : Int)], .int .i64 ((S : Int) + 2), .bool true])) ((wr.setCell ⟨w.heap.size, 0, none⟩ u).setCell ⟨w.heap.size, 1, none⟩ v) := by
 have hb := h.bel
 have hsz := hb.size
 refine ⟨(hb.setCell (by simp) _).setCell (by simp) _, .inr ⟨⟨hA, hB.1, hB.2.1, hB.2.2.1, hB.2.2.2, ?_⟩, ?_⟩⟩
 · intro i h1 h2 h3
   rw [<- hS] at h2
   rw [<- hO] at h3
   have := h.dg (i - (p + 1)) (by omega) (by omega)
   rw [show p + 1 + (i - (p + 1)) = i from by omega] at this
   exact this
 · have hlen : 0 < (col s O (p + 1) (S - p - 1)).length := by
     have h4 := hB.2.2.2
     rw [<- hS, <- hO] at h4
     have hpO : p <= O := by rw [hO]; exact Nat.le_add_right _ _
     by_cases e : p + 1 + (S - p - 1 - 1) = O
     · omega
     · rw [show S - p - 1 = S - p - 1 - 1 + 1 from by omega, col, if_neg e]; simp
   rcases h.own.2 with ⟨e1, e2⟩ | ⟨g, cap1, cur, e1, e2⟩
   · rw [e2] at hlen; omega
   · injection e1 with e1 e3 e4
     subst e1
     refine ⟨g, cap, ?_, ?_⟩
     · rw [<- hS, <- hO, hF]; simp
     · rw [<- hS, <- hO]
       obtain ⟨b1, b2, b3, b4, b5, b6⟩ := e2
       have hgs : g < wr.heap.size := (Array.getElem?_eq_some_iff.1 b2).1
       refine ⟨by simpa using hgs, fun j hj => ?_⟩
       rw [cell_otherY (addr_nb (by omega)), cell_otherY (addr_nb (by omega))]
       have e5 : cur.toList[j]? = some (.int .i64 (((col s O (p + 1) (S - p - 1)).getD j 0 : Nat) : Int)) := by
         have e6 : (cur.toList.take ((col s O (p + 1) (S - p - 1)).length * 1))[j]? = (ints (col s O (p + 1) (S - p - 1)))[j]? := by rw [b6]
         rw [List.getElem?_take_of_lt (by omega)] at e6
         rw [e6]
         simp [ints, List.getD, hj]
       simp [World.cell?, b2]
       simpa using e5
theorem las_ok (s : ByteArray) (p : Nat) (w : World) (hs : s.size <= 4000000) (hp : p <= s.size) (hA : isAt s p 91 = true) (hbr : BrR s p) :
   Calls Tryz.prog 89 #[.string s, .int .i64 (p : Int)] w fun e w' => LrOut s p w e w' := by
 have hlt := isAt_lt hA
 have HBR : Hid (BrR s p) := hbr
 clear hbr
 have HA : Hid (isAt s p 91 = true) := hA
 have hb : ((s[p].toNat : Int) != 91) = false := by
   have := (isAt_iff.1 hA).2
   rw [byteR hlt] at this
   simp [this]
 have hlt2 : ¬ (s.size : Int) <= (p : Int) := by omega
 have ho : opn s p <= s.size := by unfold opn; have := findc_le 40 (tl s p); rw [tl_length] at this; omega
 have hsh : sht s p <= s.size := by unfold sht; have := findc_le 41 (tl s p); rw [tl_length] at this; omega
 have hop : p <= opn s p := Nat.le_add_right _ _
 have hsp : p <= sht s p := Nat.le_add_right _ _
 have HU1 := fun W => upTo_is s p 40 W (by omega) hp
 have HU2 := fun W => upTo_is s p 41 W (by omega) hp
 obtain ⟨O, hO⟩ : ∃ O, O = opn s p := ⟨_, rfl⟩
 obtain ⟨S, hS⟩ : ∃ S, S = sht s p := ⟨_, rfl⟩
 have HO : Hid (O = opn s p) := hO
 have HS : Hid (S = sht s p) := hS
 rw [show p + findc 40 (tl s p) = O from hO.symm] at HU1
 rw [show p + findc 41 (tl s p) = S from hS.symm] at HU2
 rw [<- hO] at ho hop
 rw [<- hS] at hsh hsp
 clear hO hS hA
 go_enter Tryz.func89, Tryz.ntmps89
 go_wp2_with fail
 refine (HU1 _).mono ?_
 rintro e w1 ⟨rfl, rfl⟩
 go_wp2_with fail
 refine (HU2 _).mono ?_
 rintro e w1 ⟨rfl, rfl⟩
 have h1 : S + 1 < s.size := by have := isAt_lt HBR.out.1; rw [<- HS.out] at this; exact this
 have h2 : s[S + 1].toNat = 93 := by have := (isAt_iff.1 HBR.out.1).2; rw [<- HS.out, byteR h1] at this; exact this
 have h3 : O <= S := by have := HBR.out.2.1; rw [<- HS.out, <- HO.out] at this; exact this
 have h4 : S <= p + 42 := by have := HBR.out.2.2.1; rw [<- HS.out] at this; exact this
 have h5 : O + 2 <= S := by have := HBR.out.2.2.2; rw [<- HS.out, <- HO.out] at this; exact this
 have q1 : ¬ (s.size : Int) <= (S : Int) + 1 := by omega
 have q1' : (S : Int) + 1 < (s.size : Int) := by omega
 have q2 : ((s[S + 1].toNat : Int) != 93) = false := by simp [h2]
 have q3 : ¬ (S : Int) < (O : Int) := by omega
 have q4 : ¬ (40 : Int) < (S : Int) - (p : Int) - 2 := by omega
 have q5 : ¬ (S : Int) - (O : Int) < 2 := by omega
 obtain ⟨i0, hi0, hz0, hz1, hz2⟩ := info_parts Tryz.info3r
 obtain ⟨F, hF⟩ : ∃ F, F = O - p - 1 := ⟨_, rfl⟩
 have hpO : p < O := by
   by_cases e : p = O
   · exfalso
     have h6 := (findc_spec (s := s) (c := 40) (O - p) p (by have := HO.out; unfold opn at this; omega)).2 (by omega)
     have h7 := (isAt_iff.1 HA.out).2
     rw [show p + (O - p) = p from by omega] at h6
     omega
   · omega
 have wF : IntKind.i64.wrap ((O : Int) - (p : Int) - 1) = (F : Int) := by rw [show (O : Int) - (p : Int) - 1 = (F : Int) from by omega]; exact wrap_small _ (by omega) (by omega)
 have HF : Hid (F = O - p - 1) := hF
 clear hF
 clear h2
 go_wp2_with fail
 generalize hW : (w.alloc (Obj.cells #[Value.slice none 0 0, Value.int IntKind.i64 0] 146)).alloc (Obj.cells #[Value.slice none 0 0, Value.int IntKind.i64 ↑F] 146) = w0
 have HL0 : Hid (Lg s O (p + 1) 0 F w.heap.size w w0 (.slice none 0 0)) := by
   show Lg _ _ _ _ _ _ _ _ _
   rw [<- hW]
   have hh := heap_alloc_new (w.alloc (Obj.cells #[Value.slice none 0 0, Value.int IntKind.i64 0] 146)) (Obj.cells #[Value.slice none 0 0, Value.int IntKind.i64 ↑F] 146)
   refine ⟨World.ownsRow_nil _ _ _ _, by simp, by simp, ?_, by simp, by simp, ?_, ?_, below2S w _ _, by simp, fun j hj => by omega⟩
   · exact frozen_of_row _ _ _ _ _ (by simpa using hh)
   · exact frozen_of_row _ _ _ _ _ (heap_alloc2_old w _ _)
   · exact frozen_of_row _ _ _ _ _ (heap_alloc2_old w _ _)
 clear hW
 have hSO : decide (S < O) = false := by simp; omega
 simp only [hSO, Bool.or_false]
 go_loopw [10] (fun q wr => ∃ (k : Nat) (v : Value), p + 1 + k <= S ∧ q = .int .i64 ((p + 1 + k : Nat) : Int) ∧ Hid (Lg s O (p + 1) k F w.heap.size w wr v)) (fun q _ => S - (intOf q).toNat)
 case atStart => exact ⟨0, _, by omega, by simp, HL0⟩
 case round =>
   obtain ⟨k, v, hk, rfl, HL⟩ := hrel
   obtain ⟨m, hm⟩ : ∃ m, m = p + 1 + k := ⟨_, rfl⟩
   have HM : Hid (m = p + 1 + k) := hm
   rw [<- hm] at hk ⊢
   clear hm
   obtain ⟨a, cap, rfl⟩ : ∃ a cap, v = .slice a (col s O (p + 1) k).length cap := by
     rcases HL.out.own.2 with ⟨e1, e2⟩ | ⟨g, cap, cur, e1, _⟩
     · exact ⟨none, 0, by rw [e1, e2]⟩
     · exact ⟨_, _, e1⟩
   have v0 := HL.out.v0
   have v1 := HL.out.v1
   have z0 := HL.out.z0
   have r0 := HL.out.r0
   have r1 := HL.out.r1
   have y0 := HL.out.y0
   have y1 := HL.out.y1
   have e1 : w.heap.size ≠ w.heap.size + 1 := by omega
   by_cases hlt : m < S
   · have hlt2 : (m : Int) < (S : Int) := by omega
     have hms : m < s.size := by omega
     have hms2 : (m : Int) < (s.size : Int) := by omega
     have hm0 : (0 : Int) <= (m : Int) := by omega
     have h256 : s[m].toNat < 256 := UInt8.toNat_lt _
     by_cases hO : m = O
     · have hO' : ((m : Int) == (O : Int)) = true := by rw [beq_iff_eq]; omega
       have HL2 : Hid (Lg s O (p + 1) (k + 1) F w.heap.size w wr (.slice a (col s O (p + 1) k).length cap)) := by
         have e : col s O (p + 1) (k + 1) = col s O (p + 1) k := by rw [col, if_pos (by have := HM.out; omega), List.append_nil]
         obtain ⟨a1, a2, a3, a4, a5, a6, a7, a8, a9, a10, a11⟩ := HL.out
         refine ⟨by rw [e]; exact a1, a2, a3, a4, a5, a6, a7, a8, a9, a10, fun j hj hne => ?_⟩
         by_cases hjk : j = k
         · exfalso; have := HM.out; omega
         · exact a11 j (by omega) hne
       clear hO
       go_wp2_with fail
       go_roundw
       case rel => exact ⟨k + 1, _, by have := HM.out; omega, by have := HM.out; subst this; go_num, HL2⟩
       case measure => simp [intOf]; omega
     · have hO' : ((m : Int) == (O : Int)) = false := by rw [beq_eq_false_iff_ne]; omega
       by_cases hd1 : (s[m].toNat : Int) < 48
       · have HN : Hid (¬ LasR s p) := fun h => by
           have := (h.2.2.2.2.2 m (by have := HM.out; omega) (by rw [<- HS.out]; exact hlt) (by rw [<- HO.out]; exact hO)).1
           rw [byteR hms] at this
           omega
         clear hO
         go_wp2_with fail
         exact bodyPost_ret (v := .tuple #[.agg #[.slice a (col s O (p + 1) k).length cap, .int .i64 (F : Int)], .int .i64 (p : Int), .bool false]) (by simp [results, Tryz.results89, go_sem, cell_sameY, cell_otherY, r0, r1]) rfl ⟨(HL.out.bel.setCell (by simp) _).setCell (by simp) _, .inl ⟨HN.out, _, _, _, _, _, rfl⟩⟩
       · by_cases hd2 : (57 : Int) < (s[m].toNat : Int)
         · have HN : Hid (¬ LasR s p) := fun h => by
             have := (h.2.2.2.2.2 m (by have := HM.out; omega) (by rw [<- HS.out]; exact hlt) (by rw [<- HO.out]; exact hO)).2
             rw [byteR hms] at this
             omega
           clear hO
           go_wp2_with fail
           exact bodyPost_ret (v := .tuple #[.agg #[.slice a (col s O (p + 1) k).length cap, .int .i64 (F : Int)], .int .i64 (p : Int), .bool false]) (by simp [results, Tryz.results89, go_sem, cell_sameY, cell_otherY, r0, r1]) rfl ⟨(HL.out.bel.setCell (by simp) _).setCell (by simp) _, .inl ⟨HN.out, _, _, _, _, _, rfl⟩⟩
         · obtain ⟨D, hD⟩ : ∃ D, D = s[m].toNat - 48 := ⟨_, rfl⟩
           have wD : IntKind.u8.wrap ((s[m].toNat : Int) - 48) = (D : Int) := by
             rw [show (s[m].toNat : Int) - 48 = (D : Int) from by omega]
             exact u8_small D (by omega)
           have HD : Hid (D = byteAt s (p + 1 + k) - 48 ∧ 48 <= byteAt s (p + 1 + k) ∧ byteAt s (p + 1 + k) <= 57 ∧ p + 1 + k ≠ O) := by
             have e := HM.out
             rw [<- e, byteR hms]
             refine ⟨hD, by omega, by omega, hO⟩
           have hDs : D <= 255 := by omega
           have wD2 : IntKind.i64.wrap (D : Int) = (D : Int) := wrap_small _ (by omega) (by omega)
           clear hO hD
           have hown := HL.out.own
           have hz := HL.out.hz
           have ab : (Value.slice a (col s O (p + 1) k).length cap).ownBlock ≠ some (w.heap.size + 1) := fun e => by have := (HL.out.own.lt _ e).1; omega
           have hca : ∀ o, (wr.alloc o).cell? ⟨w.heap.size + 1, 0, none⟩ = some (.slice a (col s O (p + 1) k).length cap) := fun o => (World.cell?_of_block (w := wr) (Below.heap_alloc _ _ _ (by show w.heap.size + 1 < _; omega))).trans v0
           have HFA : Hid (∀ o, (wr.alloc o).frozen? ⟨w.heap.size + 1, 0, none⟩ = false) := fun o => (World.frozen?_of_block (w := wr) (Below.heap_alloc _ _ _ (by show w.heap.size + 1 < _; omega))).trans z0
           have hcl : (col s O (p + 1) k).length <= 41 := by have := col_len s O (p + 1) k; have := HM.out; omega
           go_wp2_with fail
           go_region_law ((refine step_append_lies _ (by rfl) _ _ _ (by rfl) (w.heap.size + 2) 3 i0 _ 1 8 Tryz.underlying144 hi0 hz0 hz1 hz2 rfl (by omega) (.slice a (col s O (p + 1) k).length cap) (col s O (p + 1) k).length (ints (col s O (p + 1) k)) (by rfl) ((hown.alloc _).drew) ⟨wr.heap.size, 0, none⟩ 1 1 [Value.int IntKind.i64 ↑D] (by rfl) (by rfl) (World.news_of_block (cs := #[Value.int IntKind.i64 ↑D]) (t := 3) (fr := (0, 0)) (heap_alloc_new wr _)) (by simp [Value.oneCell']) (by omega) (by unfold maxLen; omega) (by omega) (by simp; omega) (wr.heap.size + 1) (by simp) ?_; intro gg cap2 w1 hown1 hgrow hat hlt1; have hfz1 : w1.frozen? ⟨w.heap.size + 1, 0, none⟩ = false := (hgrow.frozen_far ⟨w.heap.size + 1, 0, none⟩ (by simp; omega) (Ne.symm ab)).trans (HFA.out _); have hcl1 : w1.cell? ⟨w.heap.size + 1, 0, none⟩ = some (.slice a (col s O (p + 1) k).length cap) := (hgrow.cell_far ⟨w.heap.size + 1, 0, none⟩ (by simp; omega) (Ne.symm ab)).trans (hca _)))
           all_goals
             go_wp2
             have HL2 := HL.out.next (D := D) HD.out.2.2.2 HD.out.1 HD.out.2.1 HD.out.2.2.1 hown1 hgrow
             go_roundw
             case rel => exact ⟨k + 1, _, by have := HM.out; omega, by have := HM.out; subst this; go_num, HL2⟩
             case measure => simp [intOf]; omega
   · obtain rfl : m = S := by omega
     have hlt2 : ¬ (m : Int) < (m : Int) := by omega
     have hkS : k = m - p - 1 := by have := HM.out; omega
     subst hkS
     go_wp2_with fail
     exact bodyPost_ret (v := .tuple #[.agg #[.slice a (col s O (p + 1) (m - p - 1)).length cap, .int .i64 (F : Int)], .int .i64 ((m : Int) + 2), .bool true]) (by simp [results, Tryz.results89, go_sem, cell_sameY, cell_otherY, r0, r1]) rfl (las_fin HA.out HBR.out HS.out HO.out HF.out HL.out _ _)
theorem las_R (s : ByteArray) (p : Nat) (w : World) (hs : s.size <= 4000000) (hp : p <= s.size) :
   Calls Tryz.prog 89 #[.string s, .int .i64 (p : Int)] w fun e w' => LrOut s p w e w' := by
 by_cases hA : isAt s p 91 = true
 · by_cases hB : BrR s p
   · exact las_ok s p w hs hp hA hB
   · exact las_badb s p w hs hp hA hB
 · exact las_no91 s p w hs hp (by simpa using hA)
def metsL (G : Gph) (ls : List Nat) (fr : Nat) (l : List UInt8) : Bool := l.all fun c => metL G ls fr c.toNat ls.length
theorem goesL_is (G : Gph) (f : ByteArray) (ls : List Nat) (fr : Nat) : goesL G (fsOf f) ls fr = (stepsL G ls fr ls.length && metsL G ls fr (tl f 0)) := by
 simp only [goesL, metsL, fsOf, List.all_map]
 rfl
theorem metsL_cons (G : Gph) (ls : List Nat) (fr : Nat) {f : ByteArray} {k : Nat} (h : k < f.size) : metsL G ls fr (tl f k) = (metL G ls fr f[k].toNat ls.length && metsL G ls fr (tl f (k + 1))) := by
 rw [tl_cons f k h]; rfl
theorem metsL_nil (G : Gph) (ls : List Nat) (fr : Nat) {f : ByteArray} {k : Nat} (h : f.size <= k) : metsL G ls fr (tl f k) = true := by
 rw [tl_nil f k h]; rfl
theorem metL_start (G : Gph) (ls : List Nat) (fr c : Nat) : metL G ls fr c fr = false := by
 simp only [metL, List.any_eq_false, List.mem_range]
 intro j hj
 simp; omega
theorem all_no {ls : List Nat} {n k x : Nat} (hk : k < ls.length) (hx : x = ls.getD k 0) (h : n <= x) : (ls.all fun x => decide (x < n)) = false := by
 rw [List.all_eq_false]
 refine ⟨ls[k], List.getElem_mem hk, ?_⟩
 have : ls.getD k 0 = ls[k] := by simp [List.getD, hk]
 simp; omega
theorem all_yes {ls : List Nat} {n : Nat} (h : ∀ j, j < ls.length -> ls.getD j 0 < n) : (ls.all fun x => decide (x < n)) = true := by
 rw [List.all_eq_true]
 intro x hx
 obtain ⟨j, hj, rfl⟩ := List.getElem_of_mem hx
 have := h j hj
 simpa [List.getD, hj] using this
theorem stepsL_no {G : Gph} {ls : List Nat} {fr k : Nat} (hk : k < ls.length) (h : G.e (ls.getD k 0) (ls.getD (nxt ls.length fr k) 0) = false) : stepsL G ls fr ls.length = false := by
 unfold stepsL
 rw [List.all_eq_false]
 exact ⟨k, List.mem_range.2 hk, by rw [h]; decide⟩
theorem goes_R (gb gl cap fr i : Nat) (ls : List Nat) (G : Gph) (mk : Nat -> ByteArray) (f : ByteArray) (w : World) (hf : f.size <= 1000) (hl : ls.length <= 40) (hfr : fr < ls.length) (HG : Hid (Gm w gb G mk)) (HL : Hid (Lr w gl ls)) :
   Calls Tryz.prog 90 #[.pointer (some ⟨gb, 0, none⟩), .agg #[.slice (some ⟨gl, 0, none⟩) ls.length cap, .int .i64 (fr : Int)], .string f, .int .i64 (i : Int)] w fun e w' =>
     e = .returned (.bool ((ls.all fun x => decide (x < G.n)) && (goesL G (fsOf f) ls fr && decide (ls.getD 0 0 = i)))) ∧ Below w.heap.size w w' := by
 have hgl := HG.out.lt
 have hll := HL.out.lt
 have hn6 := HG.out.n6
 obtain ⟨R, hR⟩ : ∃ R, R = ((ls.all fun x => decide (x < G.n)) && (goesL G (fsOf f) ls fr && decide (ls.getD 0 0 = i))) := ⟨_, rfl⟩
 have HR : Hid (R = ((ls.all fun x => decide (x < G.n)) && (goesL G (fsOf f) ls fr && decide (ls.getD 0 0 = i)))) := hR
 rw [<- hR]
 clear hR
 obtain ⟨N, hN⟩ : ∃ N, N = ls.length := ⟨_, rfl⟩
 have HN : Hid (N = ls.length) := hN
 rw [<- hN] at hl hfr ⊢
 clear hN
 go_enter Tryz.func90, Tryz.ntmps90
 go_wp2_with fail
 generalize hW : w.alloc (Obj.cells #[Value.slice (some { block := gl, off := 0 }) N cap, Value.int IntKind.i64 ↑fr] 146) = W0
 have HB0 : Hid (Below w.heap.size w W0) := by show Below _ _ _; rw [<- hW]; exact (Below.refl _ _).alloc (Nat.le_refl _) _
 have HG0 : Hid (Gm W0 gb G mk) := HG.out.below HB0.out hgl
 have HL0 : Hid (Lr W0 gl ls) := HL.out.below HB0.out hll
 have HC0 : Hid (W0.cell? ⟨w.heap.size, 0, none⟩ = some (.slice (some ⟨gl, 0, none⟩) N cap)) := by show _ = _; rw [<- hW]; simp
 have HC1 : Hid (W0.cell? ⟨w.heap.size, 1, none⟩ = some (.int .i64 (fr : Int))) := by show _ = _; rw [<- hW]; simp
 have HAT : ∀ (k : Nat) (W : World), k <= ls.length -> Hid (Below (w.heap.size + 1) W0 W) -> Calls Tryz.prog 91 #[.agg #[.slice (some ⟨gl, 0, none⟩) N cap, .int .i64 (fr : Int)], .int .i64 (k : Int)] W fun e w' => e = .returned (.int .i64 ((ls.getD (if k = ls.length then fr else k) 0 : Nat) : Int)) ∧ Below W.heap.size W w' := by
   intro k W hk hB
   have hN := HN.out
   rw [hN]
   exact at_R gl cap fr k ls W (by omega) (by omega) hk (HL0.out.below hB.out (by omega))
 have hWs : W0.heap.size = w.heap.size + 1 := by rw [<- hW]; simp
 clear hW HG HL
 have HBW : Hid (∀ W, Below (w.heap.size + 1) W0 W -> W.cell? ⟨w.heap.size, 0, none⟩ = some (.slice (some ⟨gl, 0, none⟩) N cap) ∧ W.cell? ⟨w.heap.size, 1, none⟩ = some (.int .i64 (fr : Int)) ∧ Gm W gb G mk ∧ Lr W gl ls ∧ Below w.heap.size w W) := fun W h =>
   ⟨(h.cell (p := ⟨w.heap.size, 0, none⟩) (by show w.heap.size < _; omega)).trans HC0.out, (h.cell (p := ⟨w.heap.size, 1, none⟩) (by show w.heap.size < _; omega)).trans HC1.out, HG0.out.below h (by omega), HL0.out.below h (by omega), HB0.out.trans (h.mono (by omega))⟩
 go_loopw [9] (fun q wr => ∃ k : Nat, k <= N ∧ q = .int .i64 k ∧ Hid (Below (w.heap.size + 1) W0 wr) ∧ Hid (∀ j, j < k -> ls.getD j 0 < G.n)) (fun q _ => N - (intOf q).toNat)
 case atStart => exact ⟨0, by omega, rfl, Below.refl _ _, fun j hj => by omega⟩
 case round =>
   obtain ⟨k, hk, rfl, HBr, HK⟩ := hrel
   obtain ⟨b0, b1, hG, hL, hBB⟩ := HBW.out _ HBr.out
   have cn := hG.cn
   by_cases hlt : k < N
   · have ck := hL.c k (by rw [<- HN.out]; exact hlt)
     obtain ⟨x, hx⟩ : ∃ x, x = ls.getD k 0 := ⟨_, rfl⟩
     have HX : Hid (x = ls.getD k 0) := hx
     rw [<- hx] at ck
     clear hx hG hL b1
     have k0 : (0 : Int) <= (k : Int) := by omega
     have k1 : (k : Int) < (N : Int) := by omega
     by_cases hxn : G.n <= x
     · have hxn2 : (G.n : Int) <= (x : Int) := by omega
       have HRF : Hid (R = false) := by show _ = _; rw [HR.out, all_no (by rw [<- HN.out]; exact hlt) HX.out hxn, Bool.false_and]
       go_wp2_with fail
       go_quiet (fail)
       go_wp2_with fail
       go_ret
       exact ⟨by rw [HRF.out]; rfl, below_drewN hBB _⟩
     · have hxn2 : ¬ (G.n : Int) <= (x : Int) := by omega
       have HK2 : Hid (∀ j, j < k + 1 -> ls.getD j 0 < G.n) := by
         intro j hj
         by_cases e : j = k
         · subst e; have := HX.out; omega
         · exact HK.out j (by omega)
       go_wp2_with fail
       go_quiet (fail)
       go_wp2_with fail
       go_roundw
       case rel => exact ⟨k + 1, by omega, by go_num, below_drewN HBr.out _, HK2⟩
       case measure => simp [intOf]; omega
   · obtain rfl : k = N := by omega
     have hlt2 : ¬ (k : Int) < (k : Int) := by omega
     have HALL : Hid (∀ j, j < ls.length -> ls.getD j 0 < G.n) := by rw [<- HN.out]; exact HK
     clear HK hG hL b1 hBB
     have HR2 : Hid (R = ((stepsL G ls fr ls.length && metsL G ls fr (tl f 0)) && decide (ls.getD 0 0 = i))) := by show _ = _; rw [HR.out, all_yes HALL.out, Bool.true_and, goesL_is]
     go_wp2_with fail
     clear b0 cn
     go_loopw [10] (fun q wr => ∃ j : Nat, j <= k ∧ q = .int .i64 j ∧ Hid (Below (w.heap.size + 1) W0 wr) ∧ Hid (stepsL G ls fr j = true)) (fun q _ => k - (intOf q).toNat)
     case atStart => exact ⟨0, by omega, rfl, HBr, by show _ = _; simp [stepsL]⟩
     case round =>
       clear HBr
       obtain ⟨j, hj, rfl, HBr, HS⟩ := hrel
       obtain ⟨b0, b1, hG, hL, hBB⟩ := HBW.out _ HBr.out
       by_cases hlt : j < k
       · have k1 : (j : Int) < (k : Int) := by omega
         have hjl : j < ls.length := by rw [<- HN.out]; exact hlt
         have hnx : nxt ls.length fr j < ls.length := by have := HN.out; unfold nxt; split <;> omega
         obtain ⟨x, hx⟩ : ∃ x, x = ls.getD j 0 := ⟨_, rfl⟩
         obtain ⟨y, hy⟩ : ∃ y, y = ls.getD (nxt ls.length fr j) 0 := ⟨_, rfl⟩
         have hxn : x < 6 := by have := HALL.out j hjl; omega
         have hyn : y < 6 := by have := HALL.out _ hnx; omega
         have ce := hG.ce x y hxn hyn
         obtain ⟨E, hE⟩ : ∃ E, E = G.e x y := ⟨_, rfl⟩
         rw [<- hE] at ce
         have HE : Hid (G.e (ls.getD j 0) (ls.getD (nxt ls.length fr j) 0) = E) := by show _ = _; rw [<- hx, <- hy, hE]
         have HA1 : ∀ W, Hid (Below (w.heap.size + 1) W0 W) -> Calls Tryz.prog 91 #[.agg #[.slice (some ⟨gl, 0, none⟩) k cap, .int .i64 (fr : Int)], .int .i64 (j : Int)] W fun e w' => e = .returned (.int .i64 (x : Int)) ∧ Below W.heap.size W w' := by
           intro W hB
           have := HAT j W (Nat.le_of_lt hjl) hB
           rw [if_neg (Nat.ne_of_lt hjl), <- hx] at this
           exact this
         have HA2 : ∀ W, Hid (Below (w.heap.size + 1) W0 W) -> Calls Tryz.prog 91 #[.agg #[.slice (some ⟨gl, 0, none⟩) k cap, .int .i64 (fr : Int)], .int .i64 ((j : Int) + 1)] W fun e w' => e = .returned (.int .i64 (y : Int)) ∧ Below W.heap.size W w' := by
           intro W hB
           have := HAT (j + 1) W hjl hB
           rw [show ls.getD (if j + 1 = ls.length then fr else j + 1) 0 = y from hy.symm] at this
           simpa using this
         have wj : IntKind.i64.wrap ((j : Int) + 1) = (j : Int) + 1 := wrap_small _ (by omega) (by omega)
         have x0 : (0 : Int) <= (x : Int) := by omega
         have x1 : (x : Int) < 6 := by omega
         have y0 : (0 : Int) <= (y : Int) := by omega
         have y1 : (y : Int) < 6 := by omega
         have hgs : gb < w.heap.size + 1 := by omega
         have hws : w.heap.size + 1 <= wr.heap.size := by have := HBr.out.size; omega
         clear hx hy hE hG hL
         go_wp2_with fail
         go_region_held3 (fun w' => w'.cell? ⟨w.heap.size, 0, none⟩ = some (.slice (some ⟨gl, 0, none⟩) k cap) ∧ w'.cell? ⟨w.heap.size, 1, none⟩ = some (.int .i64 (fr : Int)) ∧ w'.cell? ⟨gb, 1 + x * 6 + y, none⟩ = some (.bool E)) (first
             | exact ⟨b0, b1, ce⟩
             | exact ⟨d0, d1, de⟩
             | exact ⟨f0, f1, fe⟩) (first
           | (go_at_call 91; refine (HA2 _ HB1).mono ?_; rintro e w2 ⟨rfl, hb2⟩
              have HB2 : Hid (Below (w.heap.size + 1) W0 w2) := HB1.out.trans (hb2.mono (by have := HB1.out.size; omega))
              have f0 := (HBW.out _ HB2.out).1
              have f1 := (HBW.out _ HB2.out).2.1
              have fe : w2.cell? ⟨gb, 1 + x * 6 + y, none⟩ = some (.bool E) := (hb2.cell (p := ⟨gb, 1 + x * 6 + y, none⟩) (by have := HB1.out.size; show gb < _; omega)).trans de
              clear hb2)
           | (go_at_call 91; refine (HA1 _ (show Hid _ from HBr.out.drew)).mono ?_; rintro e w1 ⟨rfl, hb1⟩
              have HB1 : Hid (Below (w.heap.size + 1) W0 w1) := HBr.out.drew.trans (hb1.mono (by simpa using hws))
              have d0 := (HBW.out _ HB1.out).1
              have d1 := (HBW.out _ HB1.out).2.1
              have de : w1.cell? ⟨gb, 1 + x * 6 + y, none⟩ = some (.bool E) := (hb1.cell (p := ⟨gb, 1 + x * 6 + y, none⟩) (by simp; omega)).trans ce
              clear hb1))
         cases E with
         | false =>
           go_wp2_with fail
           go_ret
           exact ⟨by rw [HR2.out, stepsL_no hjl HE.out]; rfl, (HBW.out _ HB2.out).2.2.2.2⟩
         | true =>
           go_wp2_with fail
           go_roundw
           case rel => exact ⟨j + 1, by omega, by go_num, HB2, by show _ = _; rw [stepsL_succ, HS.out, HE.out]; rfl⟩
           case measure => simp [intOf]; omega
       · obtain rfl : j = k := by omega
         have hlt3 : ¬ (j : Int) < (j : Int) := by omega
         have HR3 : Hid (R = (metsL G ls fr (tl f 0) && decide (ls.getD 0 0 = i))) := by show _ = _; rw [HR2.out, <- HN.out, HS.out, Bool.true_and]
         clear hG hL hBB HS HR2
         go_wp2_with fail
         clear b0 b1
         go_loopw [11] (fun q wr => ∃ k : Nat, k <= f.size ∧ q = .int .i64 k ∧ Hid (Below (w.heap.size + 1) W0 wr) ∧ Hid (metsL G ls fr (tl f k) = metsL G ls fr (tl f 0))) (fun q _ => f.size - (intOf q).toNat)
         case atStart => exact ⟨0, by omega, rfl, HBr, rfl⟩
         case round =>
           clear HBr
           obtain ⟨k, hk, rfl, HBr, HF⟩ := hrel
           obtain ⟨b0, b1, hG, hL, hBB⟩ := HBW.out _ HBr.out
           by_cases hkf : k < f.size
           · have hlt2 : (k : Int) < (f.size : Int) := by omega
             have k0 : (0 : Int) <= (k : Int) := by omega
             have HM0 := metL_start G ls fr f[k].toNat
             clear hG hL hBB
             go_wp2_with fail
             clear b0 b1
             go_loopw [12, 13] (fun t q wr => ∃ (d : Nat) (b : Bool), fr <= d ∧ d <= j ∧ t = .bool b ∧ q = .int .i64 d ∧ Hid (Below (w.heap.size + 1) W0 wr) ∧ Hid (metL G ls fr f[k].toNat d = b)) (fun _ q _ => j - (intOf q).toNat)
             case atStart => exact ⟨fr, false, by omega, by omega, rfl, rfl, HBr, HM0⟩
             case round =>
               clear HBr HM0
               obtain ⟨d, b, hd1, hd2, rfl, rfl, HBr, HD⟩ := hrel
               obtain ⟨b0, b1, hG, hL, hBB⟩ := HBW.out _ HBr.out
               by_cases hdl : d < j
               · have hdl2 : (d : Int) < (j : Int) := by omega
                 have d0 : (0 : Int) <= (d : Int) := by omega
                 have hdn : d < ls.length := by rw [<- HN.out]; exact hdl
                 have cd := hL.c d hdn
                 obtain ⟨x, hx⟩ : ∃ x, x = ls.getD d 0 := ⟨_, rfl⟩
                 have hxn : x < 6 := by have := HALL.out d hdn; omega
                 obtain ⟨m, hm⟩ : ∃ m, m = G.m x f[k].toNat := ⟨_, rfl⟩
                 have HD2 : Hid (metL G ls fr f[k].toNat (d + 1) = (b || m)) := by show _ = _; rw [metL_succ, HD.out, show decide (fr <= d) = true from by simpa using hd1, hm, hx, Bool.true_and]
                 rw [<- hx] at cd
                 have HBE : ∀ W, Hid (Below (w.heap.size + 1) W0 W) -> Calls Tryz.prog 78 #[.pointer (some ⟨gb, 0, none⟩), .int .i64 (x : Int), .int .u8 (f[k].toNat : Int)] W fun e w' => e = .returned (.bool m) ∧ ∃ n, w' = W.drewN n := by
                   intro W hB
                   rw [hm]
                   exact bears_is gb x f[k].toNat G mk W hxn (HBW.out _ hB.out).2.2.1
                 clear hx hm hG hL hBB
                 cases b with
                 | true =>
                   go_wp2_with fail
                   go_quiet (fail)
                   go_wp2_with fail
                   go_roundw
                   case rel => exact ⟨d + 1, true, by omega, by omega, rfl, by go_num, below_drewN HBr.out _, by show _ = _; rw [HD2.out]; rfl⟩
                   case measure => simp [intOf]; omega
                 | false =>
                   go_wp2_with fail
                   go_region_held3 (fun w' => w'.cell? ⟨w.heap.size, 0, none⟩ = some (.slice (some ⟨gl, 0, none⟩) j cap) ∧ w'.cell? ⟨gl, d, none⟩ = some (.int .i64 (x : Int))) (first
                       | exact ⟨b0, cd⟩) (first
                     | (go_at_call 78; refine (HBE _ (show Hid _ from HBr.out.drew)).mono ?_; rintro e w1 ⟨rfl, n, rfl⟩))
                   all_goals
                     go_wp2_with fail
                     go_roundw
                     case rel => exact ⟨d + 1, m, by omega, by omega, rfl, by go_num, below_drewN HBr.out _, by show _ = _; rw [HD2.out]; rfl⟩
                     case measure => simp [intOf]; omega
               · obtain rfl : d = j := by omega
                 have hdl2 : ¬ (d : Int) < (d : Int) := by omega
                 have HM1 : Hid (metsL G ls fr (tl f 0) = (b && metsL G ls fr (tl f (k + 1)))) := by show _ = _; rw [<- HF.out, metsL_cons G ls fr hkf, <- HD.out, <- HN.out]
                 clear hG hL
                 cases b with
                 | false =>
                   go_wp2_with fail
                   go_ret
                   exact ⟨by rw [HR3.out, HM1.out]; rfl, hBB⟩
                 | true =>
                   go_wp2_with fail
                   go_roundw
                   case rel => exact ⟨k + 1, by omega, by go_num, HBr, by show _ = _; rw [HM1.out]; rfl⟩
                   case measure => simp [intOf]; omega
           · obtain rfl : k = f.size := by omega
             have hlt2 : ¬ (f.size : Int) < (f.size : Int) := by omega
             have cz := hL.c 0 (by have := HN.out; omega)
             have HR4 : Hid (R = decide (ls.getD 0 0 = i)) := by show _ = _; rw [HR3.out, <- HF.out, metsL_nil G ls fr (Nat.le_refl _), Bool.true_and]
             obtain ⟨z, hz⟩ : ∃ z, z = ls.getD 0 0 := ⟨_, rfl⟩
             rw [<- hz] at cz HR4
             have j0 : (0 : Int) < (j : Int) := by omega
             have HZ : Hid (((z : Int) == (i : Int)) = decide (z = i)) := by show _ = _; rw [Bool.eq_iff_iff, beq_iff_eq, decide_eq_true_eq]; omega
             clear hG hL hz
             go_wp2_with fail
             go_ret
             exact ⟨by rw [HR4.out, <- HZ.out]; rfl, hBB⟩
theorem lasG_of {G : Gph} {fs : List Nat} {s : ByteArray} {st p : Nat} (hn : G.n <= 6) (hr : LasR s p) (hgo : ((col s (opn s p) (p + 1) (sht s p - p - 1)).all fun x => decide (x < G.n)) = true) (h2 : goesL G fs (col s (opn s p) (p + 1) (sht s p - p - 1)) (opn s p - p - 1) = true) (h3 : (col s (opn s p) (p + 1) (sht s p - p - 1)).getD 0 0 = st) :
   lasG G fs s st p = some (col s (opn s p) (p + 1) (sht s p - p - 1), opn s p - p - 1, sht s p + 2) := by
 unfold lasG
 rw [ref_las (by omega) hr (fun y hy => by simpa using List.all_eq_true.1 hgo y hy)]
 simp only
 rw [if_pos ⟨h3, h2⟩]
theorem lasG_no1 {G : Gph} {fs : List Nat} {s : ByteArray} {st p : Nat} (hn : G.n <= 6) (hr : ¬ LasR s p) : lasG G fs s st p = none := by
 unfold lasG
 cases h : las G.n s p with
 | none => rfl
 | some x => exact absurd (las_ref (by omega) h).1 hr
theorem lasG_no2 {G : Gph} {fs : List Nat} {s : ByteArray} {st p : Nat} (hn : G.n <= 6) (hr : LasR s p)
   (h : ((col s (opn s p) (p + 1) (sht s p - p - 1)).all fun x => decide (x < G.n)) = false ∨ goesL G fs (col s (opn s p) (p + 1) (sht s p - p - 1)) (opn s p - p - 1) = false ∨ (col s (opn s p) (p + 1) (sht s p - p - 1)).getD 0 0 ≠ st) : lasG G fs s st p = none := by
 unfold lasG
 cases hl : las G.n s p with
 | none => rfl
 | some x =>
   have e := (las_ref (by omega) hl).2
   have hx := (las_some hl).2.2.1
   rw [e] at hx ⊢
   simp only at hx ⊢
   rw [if_neg]
   rintro ⟨h1, h2⟩
   rcases h with h | h | h
   · rw [List.all_eq_false] at h
     obtain ⟨y, hy, hy2⟩ := h
     exact hy2 (by simpa using hx y hy)
   · rw [h] at h2; cases h2
   · exact h h1
end Go.Proofs.YtcfbfdjmcabnkabGreat
