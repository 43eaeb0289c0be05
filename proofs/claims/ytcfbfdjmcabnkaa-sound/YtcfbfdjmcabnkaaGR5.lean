import Derived.Test.YtcfbfdjmcabnkaaGR4
import Derived.Test.YtcfbfdjmcabnkaaG12
import Derived.Test.YtcfbfdjmcabnkaaGR1
namespace Go.Proofs.Ytcfbfdjmcabnkaa
open Go.RowKit Fw
open Go.Deep (BT)
set_option linter.unusedVariables false

/-- a way's new box, filled -/
theorem way_new {w1 w2 : World} {o : Obj} {C : List Value} {ls : List Nat} {fr : Nat} (hz : w2.heap.size = (w1.alloc o).heap.size) (hr : w2.rangeAt w1.heap.size 0 C.toArray.toList) (hfz : ∀ p, w2.frozen? p = (w1.alloc o).frozen? p) (ho : ∀ j, (w1.alloc o).frozen? ⟨w1.heap.size, j, none⟩ = false) (hC : C = lasC ls ls.length fr) (hle : ls.length ≤ 40) : Ls w2 w1.heap.size ls fr := by
  subst hC
  exact ls_of (by rw [hz]; simp) hle (by simpa using hr) (fun j _ => (hfz _).trans (ho j))
theorem fz_new (w : World) (Z : Array Value) (t : TypeId) (j : Nat) : (w.alloc (.cells Z t)).frozen? ⟨w.heap.size, j, none⟩ = false := frozen_of_row _ _ _ _ _ (heap_alloc_new w _)
theorem Cr.filled {w w1 w2 : World} {b g cap p : Nat} {G : Gph} {K : Nat → ByteArray} {f : ByteArray} {B : Nat → Bool} {ns : List Nd} {s : ByteArray} {o : Obj} (h : Cr w1 b g cap G K f B ns s p) (hz : w2.heap.size = (w1.alloc o).heap.size) (hk : ∀ k, k ≠ w1.heap.size → w2.heap[k]? = (w1.alloc o).heap[k]?) : Cr w2 b g cap G K f B ns s p :=
  (h.alloc o).same (by rw [hz]; exact Nat.le_refl _) (hk b (by have := h.wy.lt; omega)) (hk g (by have := h.nr.lt; omega))
theorem Kq.filled {b : Nat} {w w1 w2 : World} {o : Obj} (h : Kq b w w1) (hb : Below w1.heap.size (w1.alloc o) w2) : Kq b w w2 := (h.alloc o).new (hb.mono h.size)
theorem cell_filled {w1 w2 : World} {o : Obj} (hk : ∀ k, k ≠ w1.heap.size → w2.heap[k]? = (w1.alloc o).heap[k]?) {H : Nat} (hH : H < w1.heap.size) (j : Nat) : w2.cell? ⟨H, j, none⟩ = w1.cell? ⟨H, j, none⟩ :=
  World.cell?_of_block (w := w1) ((hk H (by omega)).trans (Below.heap_alloc _ _ _ hH))

theorem after_0 (H fr : Nat) (ls : List Nat) (w : World) (HL : Hid (Ls w H ls fr)) :
    Calls Try.prog 76 #[.pointer (some ⟨H, 0, none⟩), .int .i64 0] w fun e w' => e = .returned (.int .i64 ((nxt ls.length fr 0 : Nat) : Int)) ∧ w' = w := after_is H fr 0 ls w (by omega) HL

/-- what passing places leaves -/
def PlOut (x : Option (Nat × Nat)) (b g cap : Nat) (G : Gph) (K : Nat → ByteArray) (f : ByteArray) (B : Nat → Bool) (ns : List Nd) (s : ByteArray) (w : World) (e : Ending) (w' : World) : Prop :=
  ∃ q : Nat, Cr w' b g cap G K f B ns s q ∧ q ≤ s.size ∧ Kq b w w' ∧ ((x = none ∧ e = .returned (.tuple #[.int .i64 0, .bool false])) ∨ ∃ k : Nat, x = some (k, q) ∧ e = .returned (.tuple #[.int .i64 (k : Int), .bool true]))

section
variable (b g cap : Nat) (G : Gph) (K : Nat → ByteArray) (f : ByteArray) (B : Nat → Bool) (ns : List Nd) (s : ByteArray)

set_option maxRecDepth 100000 in
set_option maxHeartbeats 1000000 in
theorem places_P (l : Fm) (i p fr : Nat) (ls : List Nat) (C : List Value) (hC : C = lasC ls ls.length fr) (hle : ls.length ≤ 40) (hls : ∀ y ∈ ls, y < G.n) (w : World) (hs : s.size ≤ 4000000) (hp : p ≤ s.size) (HL : Hid (PaAt l i b g cap G K f B ns s)) (HR : Hid (Cr w b g cap G K f B ns s p)) :
    Calls Try.prog 77 #[.pointer (some ⟨b, 0, none⟩), .int .i64 (i : Int), .agg C.toArray] w fun e w' => PlOut (plc (rep G (fsOf f) s l) s ls p) b g cap G K f B ns s w e w' := by
  obtain ⟨x, hxe⟩ : ∃ x, x = plc (rep G (fsOf f) s l) s ls p := ⟨_, rfl⟩
  have HE : Hid (x = plc (rep G (fsOf f) s l) s ls p) := hxe
  rw [← hxe]
  have hbl := HR.out.wy.lt
  have hgl := HR.out.nr.lt
  have e1 : w.heap.size ≠ b := by omega
  have HL0 : Hid (Ls (w.alloc (.cells C.toArray 116)) w.heap.size ls fr) := ls_new w hC hle 116
  have HS : Hid (∀ y ∈ ls, y < G.n) := hls
  have HC0 : Hid (Cr (w.alloc (.cells C.toArray 116)) b g cap G K f B ns s p) := HR.out.alloc _
  have HK0 : Hid (Kq b w (w.alloc (.cells C.toArray 116))) := (Kq.refl _ _).alloc _
  clear hC hls hxe
  go_enter Try.func77, Try.ntmps77
  go_wp2_with fail
  go_loopw [8] (fun q wr => ∃ k pk : Nat, k ≤ ls.length ∧ pk ≤ s.size ∧ q = .int .i64 k ∧ Hid (PlcInv (rep G (fsOf f) s l) s ls p k pk) ∧ Hid (Cr wr b g cap G K f B ns s pk) ∧ Hid (Ls wr w.heap.size ls fr) ∧ Hid (Kq b w wr)) (fun q _ => ls.length - (intOf q).toNat)
  case atStart => exact ⟨0, p, by omega, hp, rfl, PlcInv.start _ _ _ _, HC0, HL0, HK0⟩
  case round =>
    obtain ⟨k, pk, hk, hpk, rfl, HI, HCr, HLr, HKr⟩ := hrel
    have cn := HLr.out.cn
    by_cases hlt : k < ls.length
    · have hlt2 : (k : Int) < (ls.length : Int) := by omega
      go_wp2_with fail
      refine (cskip_any b g cap 44 pk G K f B ns s _ hs hpk (by omega) HCr).mono ?_
      rintro e w1 ⟨⟨hA, rfl, hcr⟩ | ⟨hA, rfl, hcr⟩, hkq⟩
      · have hp1 : pk + 1 ≤ s.size := isAt_lt hA
        have HA : Hid (isAt s pk 44 = true) := hA
        have HC1 : Hid (Cr w1 b g cap G K f B ns s (pk + 1)) := hcr
        have HL1 : Hid (Ls w1 w.heap.size ls fr) := HLr.out.kq hkq e1
        have HK1 : Hid (Kq b w w1) := HKr.out.trans hkq
        have ck := HL1.out.c k (by omega)
        have hx6 : ls.getD k 0 < G.n := getD_lt HS.out hlt
        have HST : Hid (∀ m, rep G (fsOf f) s l (ls.getD k 0) (pk + 1) = some m → PlcInv (rep G (fsOf f) s l) s ls p (k + 1) m) := fun m h => HI.out.step hlt HA.out h
        have HBD : Hid (rep G (fsOf f) s l (ls.getD k 0) (pk + 1) = none → plc (rep G (fsOf f) s l) s ls p = none) := fun h => HI.out.bad hlt HA.out h
        obtain ⟨y, hy⟩ : ∃ y, y = ls.getD k 0 := ⟨_, rfl⟩
        rw [← hy] at ck hx6 HST HBD
        have k0 : (0 : Int) ≤ (k : Int) := by omega
        have k1 : (k : Int) < 40 := by omega
        clear hA hcr hkq hy
        go_wp2_with fail
        refine (HL.out _ y (pk + 1) HC1 hx6 hp1).mono ?_
        rintro e w2 ⟨q, hcr, hq, hkq, ⟨hx, rfl⟩ | ⟨hx, rfl⟩⟩
        · have HN : Hid (plc (rep G (fsOf f) s l) s ls p = none) := HBD.out hx
          have HC2 : Hid (Cr w2 b g cap G K f B ns s q) := hcr
          have HK2 : Hid (Kq b w w2) := HK1.out.trans hkq
          clear hcr hkq hx
          go_wp2_with fail
          go_ret2
          exact ⟨q, HC2.out, hq, HK2.out, .inl ⟨by rw [HE.out]; exact HN.out, rfl⟩⟩
        · have HI2 : Hid (PlcInv (rep G (fsOf f) s l) s ls p (k + 1) q) := HST.out q hx
          have HC2 : Hid (Cr w2 b g cap G K f B ns s q) := hcr
          have HL2 : Hid (Ls w2 w.heap.size ls fr) := HL1.out.kq hkq e1
          have HK2 : Hid (Kq b w w2) := HK1.out.trans hkq
          clear hcr hkq hx
          go_wp2_with fail
          go_roundw
          case rel => exact ⟨k + 1, q, by omega, hq, by go_num, HI2, HC2, HL2, HK2⟩
          case measure => simp [intOf]; omega
      · have HN : Hid (plc (rep G (fsOf f) s l) s ls p = some (k, pk)) := HI.out.stop hlt hA
        have HC1 : Hid (Cr w1 b g cap G K f B ns s pk) := hcr
        have HK1 : Hid (Kq b w w1) := HKr.out.trans hkq
        clear hA hcr hkq
        go_wp2_with fail
        go_ret2
        exact ⟨pk, HC1.out, hpk, HK1.out, .inr ⟨k, by rw [HE.out]; exact HN.out, rfl⟩⟩
    · obtain rfl : k = ls.length := by omega
      have hlt2 : ¬ (ls.length : Int) < (ls.length : Int) := by omega
      have HN : Hid (plc (rep G (fsOf f) s l) s ls p = some (ls.length, pk)) := HI.out.full
      go_wp2_with fail
      go_ret2
      exact ⟨pk, HCr.out, hpk, HKr.out, .inr ⟨ls.length, by rw [HE.out]; exact HN.out, rfl⟩⟩

set_option maxRecDepth 100000 in
set_option maxHeartbeats 1000000 in
theorem next_P (l r : Fm) (wy li ri k st p : Nat) (u : Unit) (w : World) (hs : s.size ≤ 4000000) (hf : f.size ≤ 1000) (hst : st < G.n) (hp : p ≤ s.size) (HL : Hid (PaAt l li b g cap G K f B ns s)) (HR : Hid (Cr w b g cap G K f B ns s p)) :
    Calls Try.prog 59 #[.pointer (some ⟨b, 0, none⟩), .agg #[.int .u8 88, .int .u8 (wy : Int), .int .i64 (li : Int), .int .i64 (ri : Int), .int .i64 (k : Int)], .int .i64 (st : Int)] w fun e w' => PaOut (rep G (fsOf f) s (.node 88 wy u l r) st p) b g cap G K f B ns s w e w' := by
  obtain ⟨x, hxe⟩ : ∃ x, x = rep G (fsOf f) s (.node 88 wy u l r) st p := ⟨_, rfl⟩
  have HE : Hid (x = rep G (fsOf f) s (.node 88 wy u l r) st p) := hxe
  rw [← hxe]
  clear hxe
  have hbl := HR.out.wy.lt
  have hgl := HR.out.nr.lt
  have e1 : w.heap.size ≠ b := by omega
  go_enter Try.func59, Try.ntmps59
  go_wp2_with fail
  refine (lasso_is b g cap st p G K f B ns s _ hs hp hf (HR.out.alloc _)).mono ?_
  rintro e w1 ⟨C, q, hCl, hCo, hcr, hq, hkq, ⟨hx, rfl⟩ | ⟨y, hx, hCe, rfl, rfl⟩⟩
  · have HX : Hid (lasG G (fsOf f) s st p = none) := hx
    have HC1 : Hid (Cr w1 b g cap G K f B ns s q) := hcr
    have HK1 : Hid (Kq b w w1) := hkq.unbox
    have hCs : C.toArray.size = 42 := by simp [hCl]
    have HCO : Hid (C.toArray.all (·.oneCell') = true) := hCo
    clear hcr hkq hx hCo
    go_wp2_with (refine storeAt 116 42 Try.size116 (by rfl) _ _ (by rfl) w1.heap.size 0 C.toArray (by rfl) (by rfl) (there_newG _ _ _ 42 rfl) hCs HCO.out ?_; intro w2 hb2 hz2 hk2 hr2 ho2 hf2; have HC2 : Hid (Cr w2 b g cap G K f B ns s q) := HC1.out.filled (w := w) hz2 hk2; have HK2 : Hid (Kq b w w2) := HK1.out.filled hb2; clear hb2 hz2 hk2 hr2 ho2 hf2)
    go_ret
    exact ⟨q, HC2.out, hq, HK2.out, .inl ⟨by rw [HE.out]; exact rep_x0 HX.out, rfl⟩⟩
  · obtain ⟨hlas, _, _⟩ := lasG_some hx
    have hls := las_some hlas
    have HX : Hid (rep G (fsOf f) s (.node 88 wy u l r) st p = rep G (fsOf f) s l (y.1.getD (nxt y.1.length y.2.1 0) 0) y.2.2) := rep_x1 hx
    have hnl : nxt y.1.length y.2.1 0 < y.1.length := by unfold nxt; split <;> omega
    have hst2 : y.1.getD (nxt y.1.length y.2.1 0) 0 < G.n := getD_lt hls.2.2.1 hnl
    obtain ⟨z, hze⟩ : ∃ z, z = y.1.getD (nxt y.1.length y.2.1 0) 0 := ⟨_, rfl⟩
    have HZ : Hid (∀ W : World, Ls W w1.heap.size y.1 y.2.1 → W.cell? ⟨w1.heap.size, nxt y.1.length y.2.1 0, none⟩ = some (.int .i64 (z : Int))) := fun W h => by rw [hze]; exact h.c _ (by omega)
    have HC1 : Hid (Cr w1 b g cap G K f B ns s y.2.2) := hcr
    have HK1 : Hid (Kq b w w1) := hkq.unbox
    have hCs : C.toArray.size = 42 := by simp [hCl]
    have HCO : Hid (C.toArray.all (·.oneCell') = true) := hCo
    have HCE : Hid (C = lasC y.1 y.1.length y.2.1) := hCe
    have hlt1 : w.heap.size < w1.heap.size := by have := hkq.size; simp at this; omega
    have c2 : w1.cell? ⟨w.heap.size, 2, none⟩ = some (.int .i64 (li : Int)) := by rw [hkq.cell (by simp) e1]; simp
    rw [← hze] at hst2 HX
    obtain ⟨j, hje⟩ : ∃ j, j = nxt y.1.length y.2.1 0 := ⟨_, rfl⟩
    have HAF := fun W (h : Hid (Ls W w1.heap.size y.1 y.2.1)) => after_0 w1.heap.size y.2.1 y.1 W h
    rw [← hje] at HAF HZ hnl
    have j0 : (0 : Int) ≤ (j : Int) := by omega
    have j1 : (j : Int) < 40 := by omega
    clear hcr hkq hx hCo hCe hlas hze hje
    go_wp2_with (refine storeAt 116 42 Try.size116 (by rfl) _ _ (by rfl) w1.heap.size 0 C.toArray (by rfl) (by rfl) (there_newG _ _ _ 42 rfl) hCs HCO.out ?_; intro w2 hb2 hz2 hk2 hr2 ho2 hf2; have HC2 : Hid (Cr w2 b g cap G K f B ns s y.2.2) := HC1.out.filled (w := w) hz2 hk2; have HK2 : Hid (Kq b w w2) := HK1.out.filled hb2; have HL2 : Hid (Ls w2 w1.heap.size y.1 y.2.1) := way_new hz2 hr2 hf2 (fz_new _ _ _) HCE.out hls.2.1; have d2 : w2.cell? ⟨w.heap.size, 2, none⟩ = some (.int .i64 (li : Int)) := (cell_filled hk2 hlt1 2).trans c2; have dz := HZ.out w2 HL2.out; clear hb2 hz2 hk2 hr2 ho2 hf2)
    refine (HAF _ HL2).mono ?_
    rintro e w3 ⟨rfl, rfl⟩
    have hlt2 : w1.heap.size < w3.heap.size := HL2.out.lt
    have hlt3 : w.heap.size < w3.heap.size := by omega
    have e6 : w1.heap.size ≠ b := by omega
    go_wp2_with fail
    go_region_held3 (fun w' => w'.cell? ⟨w.heap.size, 2, none⟩ = some (.int .i64 (li : Int)) ∧ w'.cell? ⟨w1.heap.size, j, none⟩ = some (.int .i64 (z : Int))) (first
        | exact ⟨d2, dz⟩
        | exact ⟨f2, fz⟩) (first
      | (go_at_call 42; refine (HL.out _ z y.2.2 (show Hid _ from HC2.out.drew) hst2 hq).mono ?_; rintro e w4 ⟨q2, hcr, hq2, hkq, hx⟩
         have HX3 : Hid ((rep G (fsOf f) s l z y.2.2 = none ∧ e = .returned (.bool false)) ∨ (rep G (fsOf f) s l z y.2.2 = some q2 ∧ e = .returned (.bool true))) := hx
         have HC3 : Hid (Cr w4 b g cap G K f B ns s q2) := hcr
         have HK3 : Hid (Kq b w w4) := HK2.out.drew.trans hkq
         have f2 : w4.cell? ⟨w.heap.size, 2, none⟩ = some (.int .i64 (li : Int)) := (hkq.cell hlt3 e1 2).trans d2
         have fz : w4.cell? ⟨w1.heap.size, j, none⟩ = some (.int .i64 (z : Int)) := (hkq.cell hlt2 e6 j).trans dz
         clear hcr hkq hx
         obtain ⟨Y, rfl⟩ : ∃ Y, e = .returned (.bool Y) := by rcases HX3.out with ⟨_, h⟩ | ⟨_, h⟩ <;> exact ⟨_, h⟩))
    go_wp2_with fail
    go_ret
    refine ⟨q2, HC3.out, hq2, HK3.out, ?_⟩
    rw [HE.out, HX.out]
    exact HX3.out
end

end Go.Proofs.Ytcfbfdjmcabnkaa

namespace Go.Proofs.Ytcfbfdjmcabnkaa
open Go.RowKit Fw
open Go.Deep (BT)
set_option linter.unusedVariables false

section
variable (b g cap : Nat) (G : Gph) (K : Nat → ByteArray) (f : ByteArray) (B : Nat → Bool) (ns : List Nd) (s : ByteArray)

set_option maxRecDepth 100000 in
set_option maxHeartbeats 2000000 in
theorem until_P (l r : Fm) (wy li ri k st p : Nat) (u : Unit) (w : World) (hs : s.size ≤ 4000000) (hf : f.size ≤ 1000) (hst : st < G.n) (hp : p ≤ s.size) (HL : Hid (PaAt l li b g cap G K f B ns s)) (HRR : Hid (PaAt r ri b g cap G K f B ns s)) (HR : Hid (Cr w b g cap G K f B ns s p)) :
    Calls Try.prog 60 #[.pointer (some ⟨b, 0, none⟩), .agg #[.int .u8 85, .int .u8 (wy : Int), .int .i64 (li : Int), .int .i64 (ri : Int), .int .i64 (k : Int)], .int .i64 (st : Int)] w fun e w' => PaOut (rep G (fsOf f) s (.node 85 wy u l r) st p) b g cap G K f B ns s w e w' := by
  obtain ⟨x, hxe⟩ : ∃ x, x = rep G (fsOf f) s (.node 85 wy u l r) st p := ⟨_, rfl⟩
  have HE : Hid (x = rep G (fsOf f) s (.node 85 wy u l r) st p) := hxe
  rw [← hxe]
  clear hxe
  have hbl := HR.out.wy.lt
  have hgl := HR.out.nr.lt
  have e1 : w.heap.size ≠ b := by omega
  go_enter Try.func60, Try.ntmps60
  go_wp2_with fail
  refine (lasso_is b g cap st p G K f B ns s _ hs hp hf (HR.out.alloc _)).mono ?_
  rintro e w1 ⟨C, q, hCl, hCo, hcr, hq, hkq, ⟨hx, rfl⟩ | ⟨y, hx, hCe, rfl, rfl⟩⟩
  · have HX : Hid (lasG G (fsOf f) s st p = none) := hx
    have HC1 : Hid (Cr w1 b g cap G K f B ns s q) := hcr
    have HK1 : Hid (Kq b w w1) := hkq.unbox
    have hCs : C.toArray.size = 42 := by simp [hCl]
    have HCO : Hid (C.toArray.all (·.oneCell') = true) := hCo
    clear hcr hkq hx hCo
    go_wp2_with (refine storeAt 116 42 Try.size116 (by rfl) _ _ (by rfl) w1.heap.size 0 C.toArray (by rfl) (by rfl) (there_newG _ _ _ 42 rfl) hCs HCO.out ?_; intro w2 hb2 hz2 hk2 hr2 ho2 hf2; have HC2 : Hid (Cr w2 b g cap G K f B ns s q) := HC1.out.filled (w := w) hz2 hk2; have HK2 : Hid (Kq b w w2) := HK1.out.filled hb2; clear hb2 hz2 hk2 hr2 ho2 hf2)
    go_ret
    exact ⟨q, HC2.out, hq, HK2.out, .inl ⟨by rw [HE.out]; exact rep_u0 HX.out, rfl⟩⟩
  · obtain ⟨hlas, _, _⟩ := lasG_some hx
    have hls := las_some hlas
    have HX : Hid (lasG G (fsOf f) s st p = some y) := hx
    have HC1 : Hid (Cr w1 b g cap G K f B ns s y.2.2) := hcr
    have HK1 : Hid (Kq b w w1) := hkq.unbox
    have hCs : C.toArray.size = 42 := by simp [hCl]
    have HCO : Hid (C.toArray.all (·.oneCell') = true) := hCo
    have HCE : Hid (C = lasC y.1 y.1.length y.2.1) := hCe
    have hlt1 : w.heap.size < w1.heap.size := by have := hkq.size; simp at this; omega
    have c2 : w1.cell? ⟨w.heap.size, 2, none⟩ = some (.int .i64 (li : Int)) := by rw [hkq.cell (by simp) e1]; simp
    have c3 : w1.cell? ⟨w.heap.size, 3, none⟩ = some (.int .i64 (ri : Int)) := by rw [hkq.cell (by simp) e1]; simp
    have HPL := fun W (h : Hid (Cr W b g cap G K f B ns s y.2.2)) => places_P b g cap G K f B ns s l li y.2.2 y.2.1 y.1 C hCe hls.2.1 hls.2.2.1 W hs hq HL h
    have HLR : Hid (∀ W : World, Ls W w1.heap.size y.1 y.2.1 → W.rangeAt w1.heap.size 0 C) := fun W h => by rw [hCe]; exact h.range
    have e6 : w1.heap.size ≠ b := by have := hcr.wy.lt; omega
    clear hcr hkq hx hCo hCe hlas
    go_wp2_with (first
      | (refine storeAt 116 42 Try.size116 (by rfl) _ _ (by rfl) w1.heap.size 0 C.toArray (by rfl) (by rfl) (there_newG _ _ _ 42 rfl) hCs HCO.out ?_; intro w2 hb2 hz2 hk2 hr2 ho2 hf2; have HC2 : Hid (Cr w2 b g cap G K f B ns s y.2.2) := HC1.out.filled (w := w) hz2 hk2; have HK2 : Hid (Kq b w w2) := HK1.out.filled hb2; have HL2 : Hid (Ls w2 w1.heap.size y.1 y.2.1) := way_new hz2 hr2 hf2 (fz_new _ _ _) HCE.out hls.2.1; have d2 : w2.cell? ⟨w.heap.size, 2, none⟩ = some (.int .i64 (li : Int)) := (cell_filled hk2 hlt1 2).trans c2; have d3 : w2.cell? ⟨w.heap.size, 3, none⟩ = some (.int .i64 (ri : Int)) := (cell_filled hk2 hlt1 3).trans c3; clear hb2 hz2 hk2 hr2 ho2 hf2)
      | (refine loadT 116 42 Try.size116 Try.row116 (by rfl) _ (by rfl) w1.heap.size (by rfl) C (HLR.out _ HL2.out) hCl ?_))
    refine (HPL _ HC2).mono ?_
    rintro e w3 ⟨q, hcr, hq3, hkq, ⟨hx, rfl⟩ | ⟨n, hx, rfl⟩⟩
    · have HN : Hid (plc (rep G (fsOf f) s l) s y.1 y.2.2 = none) := hx
      have HC3 : Hid (Cr w3 b g cap G K f B ns s q) := hcr
      have HK3 : Hid (Kq b w w3) := HK2.out.trans hkq
      clear hcr hkq hx
      go_wp2_with fail
      go_ret
      exact ⟨q, HC3.out, hq3, HK3.out, .inl ⟨by rw [HE.out]; exact rep_u1 HX.out HN.out, rfl⟩⟩
    · have hnl := (plc_some (fun a b c hb => rep_some l a b c hb) y.1 y.2.2 (n, q) hq hx).1
      have HN : Hid (plc (rep G (fsOf f) s l) s y.1 y.2.2 = some (n, q)) := hx
      have HC3 : Hid (Cr w3 b g cap G K f B ns s q) := hcr
      have HK3 : Hid (Kq b w w3) := HK2.out.trans hkq
      have HL3 : Hid (Ls w3 w1.heap.size y.1 y.2.1) := HL2.out.kq hkq e6
      have d3' : w3.cell? ⟨w.heap.size, 3, none⟩ = some (.int .i64 (ri : Int)) := (hkq.cell (by have := HL2.out.lt; omega) e1 3).trans d3
      have cn := HL3.out.cn
      have hlt3 : w.heap.size < w3.heap.size := by have := HL3.out.lt; omega
      clear hcr hkq hx d2 d3
      by_cases hn : n = y.1.length
      · have HU : Hid (rep G (fsOf f) s (.node 85 wy u l r) st p = none) := rep_u2 HX.out HN.out (fun h => by have := h.1; simp only at this; omega)
        have hn' : ((n : Int) == (y.1.length : Int)) = true := by rw [beq_iff_eq]; omega
        clear hn
        go_wp2_with fail
        go_ret
        exact ⟨q, HC3.out, hq3, HK3.out, .inl ⟨by rw [HE.out]; exact HU.out, rfl⟩⟩
      · have hn' : ((n : Int) == (y.1.length : Int)) = false := by rw [beq_eq_false_iff_ne]; omega
        have hnlt : n < y.1.length := by simp only at hnl; omega
        clear hn
        go_wp2_with fail
        refine (cskip_any b g cap 45 q G K f B ns s _ hs hq3 (by omega) HC3).mono ?_
        rintro e w4 ⟨⟨hA, rfl, hcr⟩ | ⟨hA, rfl, hcr⟩, hkq⟩
        · have hp1 : q + 1 ≤ s.size := isAt_lt hA
          have HU : Hid (rep G (fsOf f) s (.node 85 wy u l r) st p = rep G (fsOf f) s r (y.1.getD n 0) (q + 1)) := rep_u3 HX.out HN.out ⟨hnlt, hA⟩
          have HC4 : Hid (Cr w4 b g cap G K f B ns s (q + 1)) := hcr
          have HK4 : Hid (Kq b w w4) := HK3.out.trans hkq
          have HL4 : Hid (Ls w4 w1.heap.size y.1 y.2.1) := HL3.out.kq hkq e6
          have d3 : w4.cell? ⟨w.heap.size, 3, none⟩ = some (.int .i64 (ri : Int)) := (hkq.cell hlt3 e1 3).trans d3'
          have dz := HL4.out.c n (by omega)
          have hst2 : y.1.getD n 0 < G.n := getD_lt hls.2.2.1 hnlt
          have hlt2 : w1.heap.size < w4.heap.size := HL4.out.lt
          have hlt4 : w.heap.size < w4.heap.size := by omega
          obtain ⟨z, hze⟩ : ∃ z, z = y.1.getD n 0 := ⟨_, rfl⟩
          rw [← hze] at dz hst2 HU
          have n0 : (0 : Int) ≤ (n : Int) := by omega
          have n1 : (n : Int) < 40 := by omega
          clear hcr hkq hA hze d3'
          go_wp2_with fail
          go_region_held3 (fun w' => w'.cell? ⟨w.heap.size, 3, none⟩ = some (.int .i64 (ri : Int)) ∧ w'.cell? ⟨w1.heap.size, n, none⟩ = some (.int .i64 (z : Int))) (first
              | exact ⟨d3, dz⟩
              | exact ⟨f2, fz⟩) (first
            | (go_at_call 42; refine (HRR.out _ z (q + 1) (show Hid _ from HC4.out.drew) hst2 hp1).mono ?_; rintro e w5 ⟨q2, hcr, hq2, hkq, hx⟩
               have HX3 : Hid ((rep G (fsOf f) s r z (q + 1) = none ∧ e = .returned (.bool false)) ∨ (rep G (fsOf f) s r z (q + 1) = some q2 ∧ e = .returned (.bool true))) := hx
               have HC5 : Hid (Cr w5 b g cap G K f B ns s q2) := hcr
               have HK5 : Hid (Kq b w w5) := HK4.out.drew.trans hkq
               have f2 : w5.cell? ⟨w.heap.size, 3, none⟩ = some (.int .i64 (ri : Int)) := (hkq.cell hlt4 e1 3).trans d3
               have fz : w5.cell? ⟨w1.heap.size, n, none⟩ = some (.int .i64 (z : Int)) := (hkq.cell hlt2 e6 n).trans dz
               clear hcr hkq hx
               obtain ⟨Y, rfl⟩ : ∃ Y, e = .returned (.bool Y) := by rcases HX3.out with ⟨_, h⟩ | ⟨_, h⟩ <;> exact ⟨_, h⟩))
          go_wp2_with fail
          go_ret
          refine ⟨q2, HC5.out, hq2, HK5.out, ?_⟩
          rw [HE.out, HU.out]
          exact HX3.out
        · have HU : Hid (rep G (fsOf f) s (.node 85 wy u l r) st p = none) := rep_u2 HX.out HN.out (fun h => by have := h.2; simp only at this; rw [hA] at this; cases this)
          have HC4 : Hid (Cr w4 b g cap G K f B ns s q) := hcr
          have HK4 : Hid (Kq b w w4) := HK3.out.trans hkq
          clear hcr hkq hA
          go_wp2_with fail
          go_ret
          exact ⟨q, HC4.out, hq3, HK4.out, .inl ⟨by rw [HE.out]; exact HU.out, rfl⟩⟩
end

end Go.Proofs.Ytcfbfdjmcabnkaa

namespace Go.Proofs.Ytcfbfdjmcabnkaa
open Go.RowKit Fw
open Go.Deep (BT)
set_option linter.unusedVariables false

section
variable (b g cap : Nat) (G : Gph) (K : Nat → ByteArray) (f : ByteArray) (B : Nat → Bool) (ns : List Nd) (s : ByteArray)

set_option maxRecDepth 100000 in
set_option maxHeartbeats 2000000 in
theorem release_P (l r : Fm) (wy li ri k st p : Nat) (u : Unit) (w : World) (hs : s.size ≤ 4000000) (hf : f.size ≤ 1000) (hst : st < G.n) (hp : p ≤ s.size) (HL : Hid (PaAt l li b g cap G K f B ns s)) (HRR : Hid (PaAt r ri b g cap G K f B ns s)) (HR : Hid (Cr w b g cap G K f B ns s p)) :
    Calls Try.prog 61 #[.pointer (some ⟨b, 0, none⟩), .agg #[.int .u8 82, .int .u8 (wy : Int), .int .i64 (li : Int), .int .i64 (ri : Int), .int .i64 (k : Int)], .int .i64 (st : Int)] w fun e w' => PaOut (rep G (fsOf f) s (.node 82 wy u l r) st p) b g cap G K f B ns s w e w' := by
  obtain ⟨x, hxe⟩ : ∃ x, x = rep G (fsOf f) s (.node 82 wy u l r) st p := ⟨_, rfl⟩
  have HE : Hid (x = rep G (fsOf f) s (.node 82 wy u l r) st p) := hxe
  rw [← hxe]
  clear hxe
  have hbl := HR.out.wy.lt
  have hgl := HR.out.nr.lt
  have e1 : w.heap.size ≠ b := by omega
  go_enter Try.func61, Try.ntmps61
  go_wp2_with fail
  refine (lasso_is b g cap st p G K f B ns s _ hs hp hf (HR.out.alloc _)).mono ?_
  rintro e w1 ⟨C, q, hCl, hCo, hcr, hq, hkq, ⟨hx, rfl⟩ | ⟨y, hx, hCe, rfl, rfl⟩⟩
  · have HX : Hid (lasG G (fsOf f) s st p = none) := hx
    have HC1 : Hid (Cr w1 b g cap G K f B ns s q) := hcr
    have HK1 : Hid (Kq b w w1) := hkq.unbox
    have hCs : C.toArray.size = 42 := by simp [hCl]
    have HCO : Hid (C.toArray.all (·.oneCell') = true) := hCo
    clear hcr hkq hx hCo
    go_wp2_with (refine storeAt 116 42 Try.size116 (by rfl) _ _ (by rfl) w1.heap.size 0 C.toArray (by rfl) (by rfl) (there_newG _ _ _ 42 rfl) hCs HCO.out ?_; intro w2 hb2 hz2 hk2 hr2 ho2 hf2; have HC2 : Hid (Cr w2 b g cap G K f B ns s q) := HC1.out.filled (w := w) hz2 hk2; have HK2 : Hid (Kq b w w2) := HK1.out.filled hb2; clear hb2 hz2 hk2 hr2 ho2 hf2)
    go_ret
    exact ⟨q, HC2.out, hq, HK2.out, .inl ⟨by rw [HE.out]; exact rep_r0 HX.out, rfl⟩⟩
  · obtain ⟨hlas, _, _⟩ := lasG_some hx
    have hls := las_some hlas
    have HX : Hid (lasG G (fsOf f) s st p = some y) := hx
    have HC1 : Hid (Cr w1 b g cap G K f B ns s y.2.2) := hcr
    have HK1 : Hid (Kq b w w1) := hkq.unbox
    have hCs : C.toArray.size = 42 := by simp [hCl]
    have HCO : Hid (C.toArray.all (·.oneCell') = true) := hCo
    have HCE : Hid (C = lasC y.1 y.1.length y.2.1) := hCe
    have hlt1 : w.heap.size < w1.heap.size := by have := hkq.size; simp at this; omega
    have c2 : w1.cell? ⟨w.heap.size, 2, none⟩ = some (.int .i64 (li : Int)) := by rw [hkq.cell (by simp) e1]; simp
    have c3 : w1.cell? ⟨w.heap.size, 3, none⟩ = some (.int .i64 (ri : Int)) := by rw [hkq.cell (by simp) e1]; simp
    have HPL := fun W (h : Hid (Cr W b g cap G K f B ns s y.2.2)) => places_P b g cap G K f B ns s r ri y.2.2 y.2.1 y.1 C hCe hls.2.1 hls.2.2.1 W hs hq HRR h
    have HLR : Hid (∀ W : World, Ls W w1.heap.size y.1 y.2.1 → W.rangeAt w1.heap.size 0 C) := fun W h => by rw [hCe]; exact h.range
    have e6 : w1.heap.size ≠ b := by have := hcr.wy.lt; omega
    clear hcr hkq hx hCo hCe hlas
    go_wp2_with (first
      | (refine storeAt 116 42 Try.size116 (by rfl) _ _ (by rfl) w1.heap.size 0 C.toArray (by rfl) (by rfl) (there_newG _ _ _ 42 rfl) hCs HCO.out ?_; intro w2 hb2 hz2 hk2 hr2 ho2 hf2; have HC2 : Hid (Cr w2 b g cap G K f B ns s y.2.2) := HC1.out.filled (w := w) hz2 hk2; have HK2 : Hid (Kq b w w2) := HK1.out.filled hb2; have HL2 : Hid (Ls w2 w1.heap.size y.1 y.2.1) := way_new hz2 hr2 hf2 (fz_new _ _ _) HCE.out hls.2.1; have d2 : w2.cell? ⟨w.heap.size, 2, none⟩ = some (.int .i64 (li : Int)) := (cell_filled hk2 hlt1 2).trans c2; have d3 : w2.cell? ⟨w.heap.size, 3, none⟩ = some (.int .i64 (ri : Int)) := (cell_filled hk2 hlt1 3).trans c3; clear hb2 hz2 hk2 hr2 ho2 hf2)
      | (refine loadT 116 42 Try.size116 Try.row116 (by rfl) _ (by rfl) w1.heap.size (by rfl) C (HLR.out _ HL2.out) hCl ?_))
    refine (HPL _ HC2).mono ?_
    rintro e w3 ⟨q, hcr, hq3, hkq, ⟨hx, rfl⟩ | ⟨n, hx, rfl⟩⟩
    · have HN : Hid (plc (rep G (fsOf f) s r) s y.1 y.2.2 = none) := hx
      have HC3 : Hid (Cr w3 b g cap G K f B ns s q) := hcr
      have HK3 : Hid (Kq b w w3) := HK2.out.trans hkq
      clear hcr hkq hx
      go_wp2_with fail
      go_ret
      exact ⟨q, HC3.out, hq3, HK3.out, .inl ⟨by rw [HE.out]; exact rep_r1 HX.out HN.out, rfl⟩⟩
    · have hnl := (plc_some (fun a b c hb => rep_some r a b c hb) y.1 y.2.2 (n, q) hq hx).1
      have HN : Hid (plc (rep G (fsOf f) s r) s y.1 y.2.2 = some (n, q)) := hx
      have HC3 : Hid (Cr w3 b g cap G K f B ns s q) := hcr
      have HK3 : Hid (Kq b w w3) := HK2.out.trans hkq
      have HL3 : Hid (Ls w3 w1.heap.size y.1 y.2.1) := HL2.out.kq hkq e6
      have d2' : w3.cell? ⟨w.heap.size, 2, none⟩ = some (.int .i64 (li : Int)) := (hkq.cell (by have := HL2.out.lt; omega) e1 2).trans d2
      have cn := HL3.out.cn
      have hlt3 : w.heap.size < w3.heap.size := by have := HL3.out.lt; omega
      clear hcr hkq hx d2 d3
      by_cases hn : n = 0
      · have HU : Hid (rep G (fsOf f) s (.node 82 wy u l r) st p = none) := rep_r2 HX.out HN.out hn
        subst hn
        go_wp2_with fail
        go_ret
        exact ⟨q, HC3.out, hq3, HK3.out, .inl ⟨by rw [HE.out]; exact HU.out, rfl⟩⟩
      · have hn' : ((n : Int) == 0) = false := by rw [beq_eq_false_iff_ne]; omega
        have HNZ : Hid (¬ n = 0) := hn
        have hnle : n ≤ y.1.length := by simp only at hnl; omega
        clear hn
        go_wp2_with fail
        refine (cskip_any b g cap 111 q G K f B ns s _ hs hq3 (by omega) HC3).mono ?_
        rintro e w4 ⟨⟨hA, rfl, hcr⟩ | ⟨hA, rfl, hcr⟩, hkq⟩
        · have hp1 : q + 1 ≤ s.size := isAt_lt hA
          have HC4 : Hid (Cr w4 b g cap G K f B ns s (q + 1)) := hcr
          have HK4 : Hid (Kq b w w4) := HK3.out.trans hkq
          have HL4 : Hid (Ls w4 w1.heap.size y.1 y.2.1) := HL3.out.kq hkq e6
          have cn4 := HL4.out.cn
          have HA : Hid (isAt s q 111 = true) := hA
          clear hcr hkq hA cn
          by_cases hq5 : n = y.1.length
          · have HU : Hid (rep G (fsOf f) s (.node 82 wy u l r) st p = some (q + 1)) := rep_r3 HX.out HN.out HNZ.out HA.out hq5
            have hq5' : ((n : Int) == (y.1.length : Int)) = true := by rw [beq_iff_eq]; omega
            clear hq5
            go_wp2_with fail
            go_ret
            exact ⟨q + 1, HC4.out, hp1, HK4.out, .inr ⟨by rw [HE.out]; exact HU.out, rfl⟩⟩
          · have HU : Hid (rep G (fsOf f) s (.node 82 wy u l r) st p = none) := rep_r4 HX.out HN.out HNZ.out HA.out hq5
            have hq5' : ((n : Int) == (y.1.length : Int)) = false := by rw [beq_eq_false_iff_ne]; omega
            clear hq5
            go_wp2_with fail
            go_ret
            exact ⟨q + 1, HC4.out, hp1, HK4.out, .inl ⟨by rw [HE.out]; exact HU.out, rfl⟩⟩
        · have HA : Hid (isAt s q 111 = false) := hA
          have HC4 : Hid (Cr w4 b g cap G K f B ns s q) := hcr
          have HK4 : Hid (Kq b w w4) := HK3.out.trans hkq
          have HL4 : Hid (Ls w4 w1.heap.size y.1 y.2.1) := HL3.out.kq hkq e6
          have d2'' : w4.cell? ⟨w.heap.size, 2, none⟩ = some (.int .i64 (li : Int)) := (hkq.cell hlt3 e1 2).trans d2'
          have hlt4 : w.heap.size < w4.heap.size := by have := HL4.out.lt; omega
          clear hcr hkq hA cn d2'
          go_wp2_with fail
          refine (cskip_any b g cap 45 q G K f B ns s _ hs hq3 (by omega) HC4).mono ?_
          rintro e w5 ⟨⟨hA2, rfl, hcr⟩ | ⟨hA2, rfl, hcr⟩, hkq⟩
          · have hp1 : q + 1 ≤ s.size := isAt_lt hA2
            have HU : Hid (rep G (fsOf f) s (.node 82 wy u l r) st p = rep G (fsOf f) s l (y.1.getD (n - 1) 0) (q + 1)) := rep_r5 HX.out HN.out HNZ.out HA.out hA2
            have HC5 : Hid (Cr w5 b g cap G K f B ns s (q + 1)) := hcr
            have HK5 : Hid (Kq b w w5) := HK4.out.trans hkq
            have HL5 : Hid (Ls w5 w1.heap.size y.1 y.2.1) := HL4.out.kq hkq e6
            have d2 : w5.cell? ⟨w.heap.size, 2, none⟩ = some (.int .i64 (li : Int)) := (hkq.cell hlt4 e1 2).trans d2''
            obtain ⟨m, hm⟩ : ∃ m, m = n - 1 := ⟨_, rfl⟩
            have hnz := HNZ.out
            rw [← hm] at HU
            have hw : IntKind.i64.wrap ((n : Int) - 1) = (m : Int) := by rw [show ((n : Int) - 1) = (m : Int) from by omega]; exact wrap_small _ (by omega) (by omega)
            have dz := HL5.out.c m (by omega)
            have hst2 : y.1.getD m 0 < G.n := getD_lt hls.2.2.1 (by omega)
            have hlt2 : w1.heap.size < w5.heap.size := HL5.out.lt
            have hlt5 : w.heap.size < w5.heap.size := by omega
            obtain ⟨z, hze⟩ : ∃ z, z = y.1.getD m 0 := ⟨_, rfl⟩
            rw [← hze] at dz hst2 HU
            have n0 : (0 : Int) ≤ (m : Int) := by omega
            have n1 : (m : Int) < 40 := by omega
            clear hcr hkq hA2 hze d2'' hn' hm hnz
            go_wp2_with fail
            go_region_held3 (fun w' => w'.cell? ⟨w.heap.size, 2, none⟩ = some (.int .i64 (li : Int)) ∧ w'.cell? ⟨w1.heap.size, m, none⟩ = some (.int .i64 (z : Int))) (first
                | exact ⟨d2, dz⟩
                | exact ⟨f2, fz⟩) (first
              | (go_at_call 42; refine (HL.out _ z (q + 1) (show Hid _ from HC5.out.drew) hst2 hp1).mono ?_; rintro e w6 ⟨q2, hcr, hq2, hkq, hx⟩
                 have HX3 : Hid ((rep G (fsOf f) s l z (q + 1) = none ∧ e = .returned (.bool false)) ∨ (rep G (fsOf f) s l z (q + 1) = some q2 ∧ e = .returned (.bool true))) := hx
                 have HC6 : Hid (Cr w6 b g cap G K f B ns s q2) := hcr
                 have HK6 : Hid (Kq b w w6) := HK5.out.drew.trans hkq
                 have f2 : w6.cell? ⟨w.heap.size, 2, none⟩ = some (.int .i64 (li : Int)) := (hkq.cell hlt5 e1 2).trans d2
                 have fz : w6.cell? ⟨w1.heap.size, m, none⟩ = some (.int .i64 (z : Int)) := (hkq.cell hlt2 e6 m).trans dz
                 clear hcr hkq hx
                 obtain ⟨Y, rfl⟩ : ∃ Y, e = .returned (.bool Y) := by rcases HX3.out with ⟨_, h⟩ | ⟨_, h⟩ <;> exact ⟨_, h⟩))
            go_wp2_with fail
            go_ret
            refine ⟨q2, HC6.out, hq2, HK6.out, ?_⟩
            rw [HE.out, HU.out]
            exact HX3.out
          · have HU : Hid (rep G (fsOf f) s (.node 82 wy u l r) st p = none) := rep_r6 HX.out HN.out HNZ.out HA.out hA2
            have HC5 : Hid (Cr w5 b g cap G K f B ns s q) := hcr
            have HK5 : Hid (Kq b w w5) := HK4.out.trans hkq
            clear hcr hkq hA2
            go_wp2_with fail
            go_ret
            exact ⟨q, HC5.out, hq3, HK5.out, .inl ⟨by rw [HE.out]; exact HU.out, rfl⟩⟩
end

end Go.Proofs.Ytcfbfdjmcabnkaa

namespace Go.Proofs.Ytcfbfdjmcabnkaa
open Go.RowKit Fw
open Go.Deep (BT)
set_option linter.unusedVariables false

section
variable (b g cap : Nat) (G : Gph) (K : Nat → ByteArray) (f : ByteArray) (B : Nat → Bool) (ns : List Nd) (s : ByteArray)

theorem PaOut.unbox {b g cap : Nat} {G : Gph} {K : Nat → ByteArray} {f : ByteArray} {B : Nat → Bool} {ns : List Nd} {s : ByteArray} {x : Option Nat} {w w' : World} {o : Obj} {e : Ending} (h : PaOut x b g cap G K f B ns s (w.alloc o) e w') : PaOut x b g cap G K f B ns s w e w' := by
  obtain ⟨q, h1, h2, h3, h4⟩ := h
  exact ⟨q, h1, h2, h3.unbox, h4⟩

set_option maxRecDepth 100000 in
set_option maxHeartbeats 1000000 in
theorem pass_and (x : Option Nat) (i wy li ri k st p : Nat) (w : World) (HA : Hid (Ct5 w b g cap ns.length i 38 wy li ri k)) (HR : Hid (Cr w b g cap G K f B ns s p))
    (HP : Hid (∀ W, Hid (Cr W b g cap G K f B ns s p) → Calls Try.prog 57 #[.pointer (some ⟨b, 0, none⟩), .agg #[.int .u8 38, .int .u8 (wy : Int), .int .i64 (li : Int), .int .i64 (ri : Int), .int .i64 (k : Int)], .int .i64 (st : Int)] W fun e w' => PaOut x b g cap G K f B ns s W e w')) :
    Calls Try.prog 42 #[.pointer (some ⟨b, 0, none⟩), .int .i64 (i : Int), .int .i64 (st : Int)] w fun e w' => PaOut x b g cap G K f B ns s w e w' := by
  obtain ⟨hi, c52, n0, n1, n2, n3, n4⟩ := HA.out
  have hi2 : (i : Int) < (ns.length : Int) := by omega
  have hbl := HR.out.wy.lt
  have hgl := HR.out.nr.lt
  go_enter Try.func42, Try.ntmps42
  go_wp2_with fail
  refine (HP.out _ (show Hid _ from HR.out.alloc _)).mono ?_
  intro e w1 h1
  have HX : Hid (PaOut x b g cap G K f B ns s w e w1) := h1.unbox
  clear h1
  obtain ⟨Y, rfl⟩ : ∃ Y, e = .returned (.bool Y) := by obtain ⟨_, _, _, _, ⟨_, h⟩ | ⟨_, h⟩⟩ := HX.out <;> exact ⟨_, h⟩
  go_wp2_with fail
  go_ret
  exact HX.out

set_option maxRecDepth 100000 in
set_option maxHeartbeats 1000000 in
theorem pass_or (x : Option Nat) (i wy li ri k st p : Nat) (w : World) (HA : Hid (Ct5 w b g cap ns.length i 43 wy li ri k)) (HR : Hid (Cr w b g cap G K f B ns s p))
    (HP : Hid (∀ W, Hid (Cr W b g cap G K f B ns s p) → Calls Try.prog 58 #[.pointer (some ⟨b, 0, none⟩), .agg #[.int .u8 43, .int .u8 (wy : Int), .int .i64 (li : Int), .int .i64 (ri : Int), .int .i64 (k : Int)], .int .i64 (st : Int)] W fun e w' => PaOut x b g cap G K f B ns s W e w')) :
    Calls Try.prog 42 #[.pointer (some ⟨b, 0, none⟩), .int .i64 (i : Int), .int .i64 (st : Int)] w fun e w' => PaOut x b g cap G K f B ns s w e w' := by
  obtain ⟨hi, c52, n0, n1, n2, n3, n4⟩ := HA.out
  have hi2 : (i : Int) < (ns.length : Int) := by omega
  have hbl := HR.out.wy.lt
  have hgl := HR.out.nr.lt
  go_enter Try.func42, Try.ntmps42
  go_wp2_with fail
  refine (HP.out _ (show Hid _ from HR.out.alloc _)).mono ?_
  intro e w1 h1
  have HX : Hid (PaOut x b g cap G K f B ns s w e w1) := h1.unbox
  clear h1
  obtain ⟨Y, rfl⟩ : ∃ Y, e = .returned (.bool Y) := by obtain ⟨_, _, _, _, ⟨_, h⟩ | ⟨_, h⟩⟩ := HX.out <;> exact ⟨_, h⟩
  go_wp2_with fail
  go_ret
  exact HX.out

set_option maxRecDepth 100000 in
set_option maxHeartbeats 1000000 in
theorem pass_x (x : Option Nat) (i wy li ri k st p : Nat) (w : World) (HA : Hid (Ct5 w b g cap ns.length i 88 wy li ri k)) (HR : Hid (Cr w b g cap G K f B ns s p))
    (HP : Hid (∀ W, Hid (Cr W b g cap G K f B ns s p) → Calls Try.prog 59 #[.pointer (some ⟨b, 0, none⟩), .agg #[.int .u8 88, .int .u8 (wy : Int), .int .i64 (li : Int), .int .i64 (ri : Int), .int .i64 (k : Int)], .int .i64 (st : Int)] W fun e w' => PaOut x b g cap G K f B ns s W e w')) :
    Calls Try.prog 42 #[.pointer (some ⟨b, 0, none⟩), .int .i64 (i : Int), .int .i64 (st : Int)] w fun e w' => PaOut x b g cap G K f B ns s w e w' := by
  obtain ⟨hi, c52, n0, n1, n2, n3, n4⟩ := HA.out
  have hi2 : (i : Int) < (ns.length : Int) := by omega
  have hbl := HR.out.wy.lt
  have hgl := HR.out.nr.lt
  go_enter Try.func42, Try.ntmps42
  go_wp2_with fail
  refine (HP.out _ (show Hid _ from HR.out.alloc _)).mono ?_
  intro e w1 h1
  have HX : Hid (PaOut x b g cap G K f B ns s w e w1) := h1.unbox
  clear h1
  obtain ⟨Y, rfl⟩ : ∃ Y, e = .returned (.bool Y) := by obtain ⟨_, _, _, _, ⟨_, h⟩ | ⟨_, h⟩⟩ := HX.out <;> exact ⟨_, h⟩
  go_wp2_with fail
  go_ret
  exact HX.out

set_option maxRecDepth 100000 in
set_option maxHeartbeats 1000000 in
theorem pass_u (x : Option Nat) (i wy li ri k st p : Nat) (w : World) (HA : Hid (Ct5 w b g cap ns.length i 85 wy li ri k)) (HR : Hid (Cr w b g cap G K f B ns s p))
    (HP : Hid (∀ W, Hid (Cr W b g cap G K f B ns s p) → Calls Try.prog 60 #[.pointer (some ⟨b, 0, none⟩), .agg #[.int .u8 85, .int .u8 (wy : Int), .int .i64 (li : Int), .int .i64 (ri : Int), .int .i64 (k : Int)], .int .i64 (st : Int)] W fun e w' => PaOut x b g cap G K f B ns s W e w')) :
    Calls Try.prog 42 #[.pointer (some ⟨b, 0, none⟩), .int .i64 (i : Int), .int .i64 (st : Int)] w fun e w' => PaOut x b g cap G K f B ns s w e w' := by
  obtain ⟨hi, c52, n0, n1, n2, n3, n4⟩ := HA.out
  have hi2 : (i : Int) < (ns.length : Int) := by omega
  have hbl := HR.out.wy.lt
  have hgl := HR.out.nr.lt
  go_enter Try.func42, Try.ntmps42
  go_wp2_with fail
  refine (HP.out _ (show Hid _ from HR.out.alloc _)).mono ?_
  intro e w1 h1
  have HX : Hid (PaOut x b g cap G K f B ns s w e w1) := h1.unbox
  clear h1
  obtain ⟨Y, rfl⟩ : ∃ Y, e = .returned (.bool Y) := by obtain ⟨_, _, _, _, ⟨_, h⟩ | ⟨_, h⟩⟩ := HX.out <;> exact ⟨_, h⟩
  go_wp2_with fail
  go_ret
  exact HX.out

set_option maxRecDepth 100000 in
set_option maxHeartbeats 1000000 in
theorem pass_r (x : Option Nat) (i wy li ri k st p : Nat) (w : World) (HA : Hid (Ct5 w b g cap ns.length i 82 wy li ri k)) (HR : Hid (Cr w b g cap G K f B ns s p))
    (HP : Hid (∀ W, Hid (Cr W b g cap G K f B ns s p) → Calls Try.prog 61 #[.pointer (some ⟨b, 0, none⟩), .agg #[.int .u8 82, .int .u8 (wy : Int), .int .i64 (li : Int), .int .i64 (ri : Int), .int .i64 (k : Int)], .int .i64 (st : Int)] W fun e w' => PaOut x b g cap G K f B ns s W e w')) :
    Calls Try.prog 42 #[.pointer (some ⟨b, 0, none⟩), .int .i64 (i : Int), .int .i64 (st : Int)] w fun e w' => PaOut x b g cap G K f B ns s w e w' := by
  obtain ⟨hi, c52, n0, n1, n2, n3, n4⟩ := HA.out
  have hi2 : (i : Int) < (ns.length : Int) := by omega
  have hbl := HR.out.wy.lt
  have hgl := HR.out.nr.lt
  go_enter Try.func42, Try.ntmps42
  go_wp2_with fail
  refine (HP.out _ (show Hid _ from HR.out.alloc _)).mono ?_
  intro e w1 h1
  have HX : Hid (PaOut x b g cap G K f B ns s w e w1) := h1.unbox
  clear h1
  obtain ⟨Y, rfl⟩ : ∃ Y, e = .returned (.bool Y) := by obtain ⟨_, _, _, _, ⟨_, h⟩ | ⟨_, h⟩⟩ := HX.out <;> exact ⟨_, h⟩
  go_wp2_with fail
  go_ret
  exact HX.out

set_option maxRecDepth 100000 in
set_option maxHeartbeats 1000000 in
theorem pass_leaf (x : Bool) (i sg wy li ri k st p : Nat) (w : World) (hs : s.size ≤ 4000000) (hp : p ≤ s.size) (b38 : ((sg : Int) == 38) = false) (b43 : ((sg : Int) == 43) = false) (b88 : ((sg : Int) == 88) = false) (b85 : ((sg : Int) == 85) = false) (b82 : ((sg : Int) == 82) = false) (HA : Hid (Ct5 w b g cap ns.length i sg wy li ri k)) (HR : Hid (Cr w b g cap G K f B ns s p))
    (HP : Hid (∀ W q, Hid (Cr W b g cap G K f B ns s q) → Calls Try.prog 63 #[.pointer (some ⟨b, 0, none⟩), .int .i64 (i : Int), .int .i64 (st : Int)] W fun e w' => e = .returned (.bool x) ∧ Below W.heap.size W w')) :
    Calls Try.prog 42 #[.pointer (some ⟨b, 0, none⟩), .int .i64 (i : Int), .int .i64 (st : Int)] w fun e w' => PaOut (if isAt s p 46 = true ∧ x = true then some (p + 1) else none) b g cap G K f B ns s w e w' := by
  obtain ⟨hi, c52, n0, n1, n2, n3, n4⟩ := HA.out
  have hi2 : (i : Int) < (ns.length : Int) := by omega
  have hbl := HR.out.wy.lt
  have hgl := HR.out.nr.lt
  obtain ⟨X, hX⟩ : ∃ X, X = if isAt s p 46 = true ∧ x = true then some (p + 1) else none := ⟨_, rfl⟩
  have HX : Hid (X = if isAt s p 46 = true ∧ x = true then some (p + 1) else none) := hX
  rw [← hX]
  clear hX
  go_enter Try.func42, Try.ntmps42
  go_wp2_with fail
  refine (cskip_any b g cap 46 p G K f B ns s _ hs hp (by omega) (HR.out.alloc _)).mono ?_
  rintro e w1 ⟨⟨hA, rfl, hcr⟩ | ⟨hA, rfl, hcr⟩, hkq⟩
  · have hp1 : p + 1 ≤ s.size := isAt_lt hA
    have HA2 : Hid (isAt s p 46 = true) := hA
    have HC1 : Hid (Cr w1 b g cap G K f B ns s (p + 1)) := hcr
    have HK1 : Hid (Kq b w w1) := hkq.unbox
    clear hA hcr hkq
    go_wp2_with fail
    refine (HP.out _ (p + 1) HC1).mono ?_
    rintro e w2 ⟨rfl, hb⟩
    have HC2 : Hid (Cr w2 b g cap G K f B ns s (p + 1)) := HC1.out.below hb HC1.out.wy.lt HC1.out.nr.lt
    have HK2 : Hid (Kq b w w2) := HK1.out.new (hb.mono HK1.out.size)
    clear hb
    go_wp2_with fail
    go_ret
    refine ⟨p + 1, HC2.out, hp1, HK2.out, ?_⟩
    cases x with
    | true => exact .inr ⟨by rw [HX.out, if_pos ⟨HA2.out, rfl⟩], rfl⟩
    | false => exact .inl ⟨by rw [HX.out, if_neg (by simp)], rfl⟩
  · have HA2 : Hid (isAt s p 46 = false) := hA
    have HC1 : Hid (Cr w1 b g cap G K f B ns s p) := hcr
    have HK1 : Hid (Kq b w w1) := hkq.unbox
    clear hA hcr hkq
    go_wp2_with fail
    go_ret
    exact ⟨p, HC1.out, hp, HK1.out, .inl ⟨by rw [HX.out, if_neg (by rw [HA2.out]; simp)], rfl⟩⟩

theorem soB_atom {G : Gph} {c st : Nat} (hc : isAtom c = true) : soB G (.node c 0 () .nil .nil) st = (decide (c = 84) || G.m st c) := by
  simp only [isAtom, decide_eq_true_eq] at hc
  rw [soB, if_neg (by omega)]

theorem so_leafs (t : Fm) (i st : Nat) (hn : G.n ≤ 6) (hst : st < G.n) (ht : (∃ c, isAtom c = true ∧ t = .node c 0 () .nil .nil) ∨ ∃ c, isAtom c = true ∧ t = .node 33 0 () (.node c 0 () .nil .nil) .nil) (hr : Rep ns t i) :
    ∀ W q, Hid (Cr W b g cap G K f B ns s q) → Calls Try.prog 63 #[.pointer (some ⟨b, 0, none⟩), .int .i64 (i : Int), .int .i64 (st : Int)] W fun e w' => e = .returned (.bool (soB G t st)) ∧ Below W.heap.size W w' := by
  intro W q hc
  rcases ht with ⟨c, hcA, rfl⟩ | ⟨c, hcA, rfl⟩
  · obtain ⟨li, ri, hnd, _, _⟩ := hr
    rw [soB_atom hcA]
    exact so_atom b g cap i st c li ri _ q G K f B ns s W (by omega) hcA (show Hid _ from hc.out.at hnd) hc
  · obtain ⟨li, ri, hnd, ⟨li2, ri2, hnd2, _, _⟩, _⟩ := hr
    have e1 : soB G (.node 33 0 () (.node c 0 () .nil .nil) .nil) st = !(decide (c = 84) || G.m st c) := by rw [soB, if_pos rfl, soB_atom hcA]
    rw [e1]
    exact so_not b g cap i st li ri _ ns.length _ W (show Hid _ from hc.out.at hnd) hc.out.nr.lt hc.out.wy.lt (fun W' hb => so_atom b g cap li st c li2 ri2 _ q G K f B ns s W' (by omega) hcA (show Hid _ from (hc.out.below hb hc.out.wy.lt hc.out.nr.lt).at hnd2) (show Hid _ from hc.out.below hb hc.out.wy.lt hc.out.nr.lt))

/-- THE PROGRAM'S PASSING OF A CERTIFICATE -/
theorem pass_any (hs : s.size ≤ 4000000) (hf : f.size ≤ 1000) (hn : G.n ≤ 6) : ∀ (t : Fm), good t → shw t → ∀ i, Rep ns t i → PaAt t i b g cap G K f B ns s := by
  intro t
  induction t with
  | nil => intro h; exact absurd h (by simp [good])
  | node sg wy u l r ihl ihr =>
    intro hg h i hrep W st p hcr hst hp
    cases u
    have hrep0 := hrep
    obtain ⟨li, ri, hnd, hl, hr⟩ := hrep
    have hat := hcr.out.at hnd
    rcases good_cases hg with ⟨c, e, hc, hT⟩ | ⟨x, e, hx, hT⟩ | ⟨s', x, y, e, hs', hx, hy, hT⟩ | ⟨z, x, e, hv, hx, hT⟩ | ⟨s', z, x, y, e, hs', hv, hx, hy, hT⟩
    · injection e with e3 e0 _ e1 e2
      subst e3 e0 e1 e2
      have hc' := hc
      simp only [isAtom, decide_eq_true_eq] at hc'
      have h5 : sg ≠ 38 ∧ sg ≠ 43 ∧ sg ≠ 88 ∧ sg ≠ 85 ∧ sg ≠ 82 := by omega
      rw [rep_leaf h5]
      exact pass_leaf b g cap G K f B ns s _ i sg 0 li ri _ st p W hs hp (by rw [beq_eq_false_iff_ne]; omega) (by rw [beq_eq_false_iff_ne]; omega) (by rw [beq_eq_false_iff_ne]; omega) (by rw [beq_eq_false_iff_ne]; omega) (by rw [beq_eq_false_iff_ne]; omega) hat hcr
        (so_leafs b g cap G K f B ns s _ i st hn hst (.inl ⟨sg, hc, rfl⟩) hrep0)
    · injection e with e3 e0 _ e1 e2
      subst e3 e0 e1 e2
      rw [shw, if_pos rfl] at h
      obtain ⟨c, hc, rfl⟩ := h
      rw [rep_leaf (by omega)]
      exact pass_leaf b g cap G K f B ns s _ i 33 0 li ri _ st p W hs hp (by decide) (by decide) (by decide) (by decide) (by decide) hat hcr
        (so_leafs b g cap G K f B ns s _ i st hn hst (.inr ⟨c, hc, rfl⟩) hrep0)
    · injection e with e3 e0 _ e1 e2
      subst e3 e0 e1 e2
      rw [shw, if_neg (by omega), if_pos hs'] at h
      rcases hs' with rfl | rfl
      · exact pass_and b g cap G K f B ns s _ i 0 li ri _ st p W hat hcr (fun W' h' => both_P b g cap G K f B ns s l r 0 li ri _ st p () W' hs hst hp (ihl hx h.1 li hl) (ihr hy h.2 ri hr) h')
      · exact pass_or b g cap G K f B ns s _ i 0 li ri _ st p W hat hcr (fun W' h' => one_P b g cap G K f B ns s l r 0 li ri _ st p () W' hs hst hp (ihl hx h.1 li hl) (ihr hy h.2 ri hr) h')
    · injection e with e3 e0 _ e1 e2
      subst e3 e0 e1 e2
      rw [shw, if_neg (by omega), if_neg (by omega), if_pos rfl] at h
      exact pass_x b g cap G K f B ns s _ i wy li ri _ st p W hat hcr (fun W' h' => next_P b g cap G K f B ns s l .nil wy li ri _ st p () W' hs hf hst hp (ihl hx h.2 li hl) h')
    · injection e with e3 e0 _ e1 e2
      subst e3 e0 e1 e2
      rw [shw, if_neg (by omega), if_neg (by omega), if_neg (by omega), if_pos hs'] at h
      rcases hs' with rfl | rfl
      · exact pass_u b g cap G K f B ns s _ i wy li ri _ st p W hat hcr (fun W' h' => until_P b g cap G K f B ns s l r wy li ri _ st p () W' hs hf hst hp (ihl hx h.2.1 li hl) (ihr hy h.2.2 ri hr) h')
      · exact pass_r b g cap G K f B ns s _ i wy li ri _ st p W hat hcr (fun W' h' => release_P b g cap G K f B ns s l r wy li ri _ st p () W' hs hf hst hp (ihl hx h.2.1 li hl) (ihr hy h.2.2 ri hr) h')
end

end Go.Proofs.Ytcfbfdjmcabnkaa

