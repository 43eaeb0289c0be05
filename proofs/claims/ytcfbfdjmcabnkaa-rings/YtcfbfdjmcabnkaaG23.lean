import Derived.Test.YtcfbfdjmcabnkaaG20
import Derived.Test.YtcfbfdjmcabnkaaG16
import Derived.Test.YtcfbfdjmcabnkaaG22
namespace Go.Proofs.Ytcfbfdjmcabnkaa
open Go.RowKit Fw
open Go.Deep (BT)
set_option linter.unusedVariables false

/-- the first i states have been carried over, of the next one the first j edges -/
structure Trn (n k : Nat) (mk ed mk' ed' : Nat → Nat → Bool) (i j : Nat) : Prop where
  m : ∀ x c, x < i → c < 3 → mk' ((x + k) % n) c = mk x c
  e : ∀ x y, x < i → y < n → ed' ((x + k) % n) ((y + k) % n) = ed x y
  f : ∀ y, y < j → ed' ((i + k) % n) ((y + k) % n) = ed i y

theorem mod_inj {n k x y : Nat} (hx : x < n) (hy : y < n) (h : (x + k) % n = (y + k) % n) : x = y := by
  have h1 : (x + k) % n = ((x + k % n)) % n := by rw [Nat.add_mod_mod]
  have h2 : (y + k) % n = ((y + k % n)) % n := by rw [Nat.add_mod_mod]
  rw [h1, h2] at h
  have hk : k % n < n := Nat.mod_lt _ (by omega)
  generalize k % n = r at h hk
  rcases Nat.lt_or_ge (x + r) n with a | a <;> rcases Nat.lt_or_ge (y + r) n with b | b
  · rw [Nat.mod_eq_of_lt a, Nat.mod_eq_of_lt b] at h; omega
  · rw [Nat.mod_eq_of_lt a, Nat.mod_eq_sub_mod b, Nat.mod_eq_of_lt (by omega)] at h; omega
  · rw [Nat.mod_eq_sub_mod a, Nat.mod_eq_of_lt (by omega), Nat.mod_eq_of_lt b] at h; omega
  · rw [Nat.mod_eq_sub_mod a, Nat.mod_eq_of_lt (by omega), Nat.mod_eq_sub_mod b, Nat.mod_eq_of_lt (by omega)] at h; omega

/-- what stands while a plan is turned -/
structure TI (w wr : World) (n : Nat) (mk ed mk' ed' : Nat → Nat → Bool) : Prop where
  bel : Below w.heap.size w wr
  p : Pl wr w.heap.size n mk ed
  th : wr.there (w.heap.size + 1) 0 55
  q : Pl wr (w.heap.size + 1 + 1) n mk' ed'

theorem TI.edge {w wr : World} {n : Nat} {mk ed mk' ed' : Nat → Nat → Bool} (h : TI w wr n mk ed mk' ed') (x y : Nat) (hx : x < 6) (hy : y < 6) (v : Bool) : TI w (wr.setCell ⟨w.heap.size + 1 + 1, 19 + x * 6 + y, none⟩ (.bool v)).drew n mk ed mk' (fun a b => if a = x ∧ b = y then v else ed' a b) := by
  have hq := (h.q.edge x y hx hy v).drew
  refine ⟨(h.bel.setCell (by simp; omega) _).drew, ?_, ?_, hq⟩
  · exact (h.p.setOther _ (by simp; omega)).drew
  · intro j hj
    have := h.th j hj
    refine ⟨?_, ?_⟩
    · have e : (wr.setCell ⟨w.heap.size + 1 + 1, 19 + x * 6 + y, none⟩ (.bool v)).cell? ⟨w.heap.size + 1, 0 + j, none⟩ = wr.cell? ⟨w.heap.size + 1, 0 + j, none⟩ := cell_otherS (addrB (by omega))
      show ((wr.setCell ⟨w.heap.size + 1 + 1, 19 + x * 6 + y, none⟩ (.bool v)).cell? ⟨w.heap.size + 1, 0 + j, none⟩).isSome = true
      rw [e]; exact this.1
    · show (wr.setCell ⟨w.heap.size + 1 + 1, 19 + x * 6 + y, none⟩ (.bool v)).frozen? ⟨w.heap.size + 1, 0 + j, none⟩ = false
      rw [World.frozen?_setCell]; exact this.2

theorem TI.mark {w wr : World} {n : Nat} {mk ed mk' ed' : Nat → Nat → Bool} (h : TI w wr n mk ed mk' ed') (x y : Nat) (hx : x < 6) (hy : y < 3) (v : Bool) : TI w (wr.setCell ⟨w.heap.size + 1 + 1, 1 + x * 3 + y, none⟩ (.bool v)) n mk ed (fun a b => if a = x ∧ b = y then v else mk' a b) ed' := by
  have hq := (h.q.mark x y hx hy v)
  refine ⟨(h.bel.setCell (by simp; omega) _), ?_, ?_, hq⟩
  · exact (h.p.setOther _ (by simp; omega))
  · intro j hj
    have := h.th j hj
    refine ⟨?_, ?_⟩
    · have e : (wr.setCell ⟨w.heap.size + 1 + 1, 1 + x * 3 + y, none⟩ (.bool v)).cell? ⟨w.heap.size + 1, 0 + j, none⟩ = wr.cell? ⟨w.heap.size + 1, 0 + j, none⟩ := cell_otherS (addrB (by omega))
      show ((wr.setCell ⟨w.heap.size + 1 + 1, 1 + x * 3 + y, none⟩ (.bool v)).cell? ⟨w.heap.size + 1, 0 + j, none⟩).isSome = true
      rw [e]; exact this.1
    · show (wr.setCell ⟨w.heap.size + 1 + 1, 1 + x * 3 + y, none⟩ (.bool v)).frozen? ⟨w.heap.size + 1, 0 + j, none⟩ = false
      rw [World.frozen?_setCell]; exact this.2

theorem Trn.marks {n k i : Nat} {mk ed mk' ed' mk2 : Nat → Nat → Bool} (h : Trn n k mk ed mk' ed' i 0) (hi : i < n) (h2 : ∀ x c, x ≠ (i + k) % n → mk2 x c = mk' x c) : Trn n k mk ed mk2 ed' i 0 :=
  ⟨fun x c hx hc => by rw [h2 _ _ (fun e => absurd (mod_inj (by omega) hi e) (by omega))]; exact h.m x c hx hc, h.e, h.f⟩
theorem Trn.edge {n k i j : Nat} {mk ed mk' ed' : Nat → Nat → Bool} (h : Trn n k mk ed mk' ed' i j) (hi : i < n) (hj : j < n) : Trn n k mk ed mk' (fun a b => if a = (i + k) % n ∧ b = (j + k) % n then ed i j else ed' a b) i (j + 1) := by
  refine ⟨h.m, fun x y hx hy => ?_, fun y hy => ?_⟩
  · show (if _ then _ else _) = _
    rw [if_neg (fun e => absurd (mod_inj (by omega) hi e.1) (by omega))]
    exact h.e x y hx hy
  · show (if _ then _ else _) = _
    by_cases e : y = j
    · rw [e, if_pos ⟨rfl, rfl⟩]
    · rw [if_neg (fun c => e (mod_inj (by omega) hj c.2))]
      exact h.f y (by omega)
theorem Trn.next {n k i : Nat} {mk ed mk' ed' : Nat → Nat → Bool} (h : Trn n k mk ed mk' ed' i n) (hm : ∀ c, c < 3 → mk' ((i + k) % n) c = mk i c) : Trn n k mk ed mk' ed' (i + 1) 0 := by
  refine ⟨fun x c hx hc => ?_, fun x y hx hy => ?_, fun y hy => by omega⟩
  · by_cases e : x = i
    · rw [e]; exact hm c hc
    · exact h.m x c (by omega) hc
  · by_cases e : x = i
    · rw [e]; exact h.f y hy
    · exact h.e x y (by omega) hy

set_option maxRecDepth 100000 in
set_option maxHeartbeats 4000000 in
theorem turned_is (n k : Nat) (mk ed : Nat → Nat → Bool) (w : World) (hn0 : 0 < n) (hn : n ≤ 6) (hk : k < n) :
    Calls Try.prog 18 #[.agg (planCells n mk ed).toArray, .int .i64 (k : Int)] w fun e w' => Below w.heap.size w w' ∧ ∃ (mk' ed' : Nat → Nat → Bool), Trn n k mk ed mk' ed' n 0 ∧ e = .returned (.agg (planCells n mk' ed').toArray) := by
  have HP0 := pl_new w n mk ed 30 _ rfl
  obtain ⟨C, hC⟩ : ∃ C, C = (planCells n mk ed).toArray := ⟨_, rfl⟩
  rw [← hC] at HP0
  rw [← hC]
  clear hC
  have HP : Hid (Pl (w.alloc (.cells C 30)) w.heap.size n mk ed) := HP0
  clear HP0
  have cn0 : ∀ Z : Array Value, ((w.alloc (.cells C 30)).alloc (.cells Z 30)).cell? ⟨w.heap.size, 0, none⟩ = some (.int .i64 (n : Int)) := fun Z => (HP.out.below (below1 _ _) HP.out.lt).cn
  have cn1 : ∀ Z : Array Value, ((w.alloc (.cells C 30)).alloc (.cells Z 30)).drew.cell? ⟨w.heap.size, 0, none⟩ = some (.int .i64 (n : Int)) := fun Z => (HP.out.below (below1 _ _) HP.out.lt).drew.cn
  have HTA : Hid (∀ (W : World) (C : Array Value) (t : TypeId) (B : Nat), W.heap.size = B → C.size = 55 → (W.alloc (.cells C t)).there B 0 55) := by
    intro W C t B h1 h2
    subst h1
    exact there_newG W C t 55 h2
  have HFZ : Hid (∀ (W : World) (C : Array Value) (t : TypeId) (B : Nat), W.heap.size = B → ∀ j, (W.alloc (.cells C t)).frozen? ⟨B, j, none⟩ = false) := by
    intro W C t B h1 j
    subst h1
    exact frozen_of_row _ _ _ _ _ (heap_alloc_new W _)
  go_enter Try.func18, Try.ntmps18
  go_wp2_with (first
    | (refine build33 (by rfl) _ (by rfl) n (n : Int) rfl (by rfl) ?_)
    | (refine storeAt 30 55 Try.size30 (by rfl) _ _ (by rfl) (w.heap.size + 1 + 1) 0 _ (by rfl) (by rfl) (HTA.out _ _ _ _ (by simp) rfl) (by simp [planCells_len]) (planCells_one _ _ _) ?_; intro w3 hb3 hz3 hk3 hr3 ho3 hf3))
  have hs3 : w.heap.size + 1 + 1 < w3.heap.size := by rw [hz3]; simp
  have HQ3 : Hid (Pl w3 (w.heap.size + 1 + 1) n (fun _ _ => false) (fun _ _ => false)) := pl_of_range hs3 (by simpa using hr3) (fun j => (hf3 _).trans (HFZ.out _ _ _ _ (by simp) j))
  have HP3 : Hid (Pl w3 w.heap.size n mk ed) := ((HP.out.below (below1 _ _) HP.out.lt).below (below1 _ _) (by simp; omega)).below hb3 (by omega)
  have HT3 : Hid (w3.there (w.heap.size + 1) 0 55) := there_below hb3 (by omega) (World.there_alloc (HTA.out _ _ _ _ (by simp) rfl) _)
  have hbel3 : Below w.heap.size w w3 := (below3 w _ _ _).trans (hb3.mono (by omega))
  clear hr3 ho3 hf3 hk3 hz3 hb3 HTA HFZ cn0 cn1 HP
  have HTI : Hid (TI w w3 n mk ed (fun _ _ => false) (fun _ _ => false)) := ⟨hbel3, HP3.out, HT3.out, HQ3.out⟩
  clear hbel3 HP3 HT3 HQ3 hs3
  go_loopw [6] (fun q wr => ∃ i : Nat, i ≤ n ∧ q = .int .i64 i ∧ Hid (∃ mk' ed', Trn n k mk ed mk' ed' i 0 ∧ TI w wr n mk ed mk' ed')) (fun q _ => n - (intOf q).toNat)
  case atStart => exact ⟨0, by omega, rfl, _, _, ⟨fun x c h => by omega, fun x y h => by omega, fun y h => by omega⟩, HTI.out⟩
  case round =>
    clear HTI
    obtain ⟨i, hi, rfl, HQ⟩ := hrel
    obtain ⟨mk', ed', htr, hq⟩ := HQ.out
    have HTR : Hid (Trn n k mk ed mk' ed' i 0) := htr
    have HTI : Hid (TI w wr n mk ed mk' ed') := hq
    clear htr hq HQ
    have cn := HTI.out.p.cn
    by_cases hlt : i < n
    · have i0 : (0 : Int) ≤ (i : Int) := by omega
      have i1 : (i : Int) < 6 := by omega
      obtain ⟨m, hm⟩ : ∃ m, m = (i + k) % n := ⟨_, rfl⟩
      have hmn : m < n := by rw [hm]; exact Nat.mod_lt _ hn0
      have HM : Hid (m = (i + k) % n) := hm
      have e1 : ((i : Int) + (k : Int)) % (n : Int) = (m : Int) := by rw [hm]; simp
      have e2 : ((i : Int) + (k : Int)).tmod (n : Int) = (m : Int) := by rw [Int.tmod_eq_emod_of_nonneg (by omega)]; exact e1
      clear hm e1
      have m0 : (0 : Int) ≤ (m : Int) := by omega
      have m1 : (m : Int) < 6 := by omega
      have n00 : ¬ n = 0 := by omega
      have n01 : ¬ (n : Int) = 0 := by omega
      have wk : IntKind.i64.wrap ((i : Int) + (k : Int)) = (i : Int) + (k : Int) := wrap_small _ (by clear e2; omega) (by clear e2; omega)
      have a0 := HTI.out.p.cm i 0 (by omega) (by omega)
      have a1 := HTI.out.p.cm i 1 (by omega) (by omega)
      have a2 := HTI.out.p.cm i 2 (by omega) (by omega)
      rw [Nat.add_zero] at a0
      have b0 : wr.cell? ⟨w.heap.size + 1 + 1, 1 + m * 3, none⟩ = some (.bool (mk' m 0)) := HTI.out.q.cm m 0 (by omega) (by omega)
      have b1 := HTI.out.q.cm m 1 (by omega) (by omega)
      have b2 := HTI.out.q.cm m 2 (by omega) (by omega)
      have z0 := HTI.out.q.fz (1 + m * 3)
      have z1 := HTI.out.q.fz (1 + m * 3 + 1)
      have z2 := HTI.out.q.fz (1 + m * 3 + 2)
      obtain ⟨mk2, hmk2⟩ : ∃ mk2 : Nat → Nat → Bool, mk2 = fun x c => if x = m ∧ c = 2 then mk i 2 else if x = m ∧ c = 1 then mk i 1 else if x = m ∧ c = 0 then mk i 0 else mk' x c := ⟨_, rfl⟩
      have HT5 : Hid (TI w (((wr.setCell ⟨w.heap.size + 1 + 1, 1 + m * 3, none⟩ (.bool (mk i 0))).setCell ⟨w.heap.size + 1 + 1, 1 + m * 3 + 1, none⟩ (.bool (mk i 1))).setCell ⟨w.heap.size + 1 + 1, 1 + m * 3 + 2, none⟩ (.bool (mk i 2))).drew n mk ed mk2 ed') := by
        have h1 := HTI.out.mark m 0 (by omega) (by omega) (mk i 0)
        have h2 := h1.mark m 1 (by omega) (by omega) (mk i 1)
        have h3 := h2.mark m 2 (by omega) (by omega) (mk i 2)
        rw [hmk2]
        exact ⟨h3.bel.drew, h3.p.drew, h3.th, h3.q.drew⟩
      have HR5 : Hid (Trn n k mk ed mk2 ed' i 0) := HTR.out.marks hlt (by
        rw [← HM.out, hmk2]
        intro x c hx
        simp [hx])
      have HM5 : Hid (∀ c, c < 3 → mk2 m c = mk i c) := fun c hc => by
        rw [hmk2]
        rcases (by omega : c = 0 ∨ c = 1 ∨ c = 2) with rfl | rfl | rfl <;> simp
      clear hmk2
      go_wp2_with fail
      go_region
      all_goals
        clear b0 b1 b2 z0 z1 z2 a0 a1 a2 cn HTI HTR
        go_wp2_with fail
        go_loopw [7] (fun q wr => ∃ j : Nat, j ≤ n ∧ q = .int .i64 j ∧ Hid (∃ ed', Trn n k mk ed mk2 ed' i j ∧ TI w wr n mk ed mk2 ed')) (fun q _ => n - (intOf q).toNat)
        case atStart => exact ⟨0, by omega, rfl, _, HR5.out, HT5.out⟩
        case round =>
          clear HR5 HT5
          obtain ⟨j, hj, rfl, HQ⟩ := hrel
          obtain ⟨ed2, htr, hq⟩ := HQ.out
          have HTR : Hid (Trn n k mk ed mk2 ed2 i j) := htr
          have HTI : Hid (TI w wr n mk ed mk2 ed2) := hq
          clear htr hq HQ
          have cn := HTI.out.p.cn
          by_cases hjl : j < n
          · have j0 : (0 : Int) ≤ (j : Int) := by omega
            have j1 : (j : Int) < 6 := by omega
            obtain ⟨l, hl⟩ : ∃ l, l = (j + k) % n := ⟨_, rfl⟩
            have hln : l < n := by rw [hl]; exact Nat.mod_lt _ hn0
            have HL : Hid (l = (j + k) % n) := hl
            have f1 : ((j : Int) + (k : Int)) % (n : Int) = (l : Int) := by rw [hl]; simp
            have f2 : ((j : Int) + (k : Int)).tmod (n : Int) = (l : Int) := by rw [Int.tmod_eq_emod_of_nonneg (by omega)]; exact f1
            clear hl
            have l0 : (0 : Int) ≤ (l : Int) := by omega
            have l1 : (l : Int) < 6 := by omega
            have ce := HTI.out.p.ce i j (by omega) (by omega)
            have cq := HTI.out.q.ce m l (by omega) (by omega)
            have zq := HTI.out.q.fz (19 + m * 6 + l)
            have HNX : Hid (Trn n k mk ed mk2 (fun a b => if a = m ∧ b = l then ed i j else ed2 a b) i (j + 1) ∧ TI w (wr.setCell ⟨w.heap.size + 1 + 1, 19 + m * 6 + l, none⟩ (.bool (ed i j))).drew n mk ed mk2 (fun a b => if a = m ∧ b = l then ed i j else ed2 a b)) := by
              refine ⟨?_, HTI.out.edge m l (by omega) (by omega) _⟩
              rw [HM.out, HL.out]
              exact HTR.out.edge hlt hjl
            go_wp2_with fail
            go_region
            all_goals
              go_wp2_with fail
              go_roundw
              case rel => exact ⟨j + 1, by omega, by go_num, _, HNX.out⟩
              case measure => simp [intOf]; omega
          · have hjn : j = n := by omega
            have HNX : Hid (Trn n k mk ed mk2 ed2 (i + 1) 0) := by
              have := HTR.out
              rw [hjn] at this
              exact this.next (by rw [← HM.out]; exact HM5.out)
            clear hjn
            go_wp2_with fail
            go_roundw
            case rel => exact ⟨i + 1, by omega, by go_num, _, _, HNX.out, HTI.out⟩
            case measure => simp [intOf]; omega
    · have hin : i = n := by omega
      have HTR' : Hid (Trn n k mk ed mk' ed' n 0) := by
        have := HTR.out
        rw [hin] at this
        exact this
      clear hin HTR
      go_wp2_with (first
        | (refine loadT 30 55 Try.size30 Try.row30 (by rfl) _ (by rfl) (w.heap.size + 1 + 1) (by rfl) (planCells n mk' ed') HTI.out.q.range (planCells_len _ _ _) ?_)
        | (refine storeT 30 55 Try.size30 (by rfl) _ _ (by rfl) (w.heap.size + 1) (planCells n mk' ed').toArray (by rfl) (by rfl) HTI.out.th (by simp [planCells_len]) (planCells_one _ _ _) ?_; intro w7 hb7 hz7 hk7 hr7))
      exact bodyPost_ret (resultT Try.results18 Try.size30 Try.row30 _ _ (w.heap.size + 1) (planCells n mk' ed') rfl (by simpa using hr7) (planCells_len _ _ _)) rfl ⟨HTI.out.bel.trans (hb7.mono (by omega)), mk', ed', HTR'.out, rfl⟩

end Go.Proofs.Ytcfbfdjmcabnkaa

namespace Go.Proofs.Ytcfbfdjmcabnkaa
open Go.RowKit Fw
open Go.Deep (BT)
set_option linter.unusedVariables false

theorem back_mod {n k i : Nat} (hk : k < n) (hi : i < n) : (((i + k) % n) + (n - k)) % n = i := by
  rcases Nat.lt_or_ge (i + k) n with a | a
  · have e1 : (i + k) % n = i + k := Nat.mod_eq_of_lt a
    have e2 : (i + k + (n - k)) % n = i := by
      rw [show i + k + (n - k) = i + n from by omega, Nat.add_mod_right]; exact Nat.mod_eq_of_lt hi
    rw [e1, e2]
  · have e1 : (i + k) % n = i + k - n := by rw [Nat.mod_eq_sub_mod a]; exact Nat.mod_eq_of_lt (by omega)
    rw [e1, show i + k - n + (n - k) = i from by omega]; exact Nat.mod_eq_of_lt hi
theorem forth_mod {n k i : Nat} (hk : k < n) (hi : i < n) : (((i + (n - k)) % n) + k) % n = i := by
  rcases Nat.lt_or_ge (i + (n - k)) n with a | a
  · have e1 : (i + (n - k)) % n = i + (n - k) := Nat.mod_eq_of_lt a
    rw [e1, show i + (n - k) + k = i + n from by omega, Nat.add_mod_right]; exact Nat.mod_eq_of_lt hi
  · have e1 : (i + (n - k)) % n = i + (n - k) - n := by rw [Nat.mod_eq_sub_mod a]; exact Nat.mod_eq_of_lt (by omega)
    rw [e1, show i + (n - k) - n + k = i from by omega]; exact Nat.mod_eq_of_lt hi

theorem renum_iso {x y : ByteArray} {mk ed mk' ed' : Nat → Nat → Bool} {n k : Nat} (h0 : 0 < n) (hn : n ≤ 6) (hk : k < n) (hx : x.data.toList = rowsT mk ed n n 0) (hy : y.data.toList = rowsT mk' ed' n n 0) (ht : Trn n k mk ed mk' ed' n 0) :
    Iso (gphOf x) (gphOf y) (fun i => (i + k) % n) (fun i => (i + (n - k)) % n) := by
  obtain ⟨_, gn, ge, gm⟩ := plan_read h0 hn hx
  obtain ⟨_, gn', ge', gm'⟩ := plan_read h0 hn hy
  have c1 := plan_chk h0 hn hx
  have c2 := plan_chk h0 hn hy
  refine ⟨gph_ok (by rw [c1]), gph_ok (by rw [c2]), by rw [gn, gn'], ?_, ?_, ?_, ?_, ?_, ?_⟩
  · intro i _; rw [gn]; exact Nat.mod_lt _ h0
  · intro i _; rw [gn]; exact Nat.mod_lt _ h0
  · intro i hi; rw [gn] at hi; exact back_mod hk hi
  · intro i hi; rw [gn] at hi; exact forth_mod hk hi
  · intro i j hi hj
    rw [gn] at hi hj
    rw [ge i j hi, ge' _ _ (Nat.mod_lt _ h0), ht.e i j hi hj, decide_eq_true (Nat.mod_lt _ h0), decide_eq_true hj]
  · intro i c hi
    rw [gn] at hi
    rw [Bool.eq_iff_iff, gm i c hi, gm' _ c (Nat.mod_lt _ h0)]
    constructor
    · rintro ⟨t, ht3, h1, h2⟩
      exact ⟨t, ht3, by rw [← ht.m i t hi ht3]; exact h1, h2⟩
    · rintro ⟨t, ht3, h1, h2⟩
      exact ⟨t, ht3, by rw [ht.m i t hi ht3]; exact h1, h2⟩

theorem renum_pure {x y f s : ByteArray} {mk ed mk' ed' : Nat → Nat → Bool} {n k : Nat} (h0 : 0 < n) (hn : n ≤ 6) (hk : k < n) (hx : x.data.toList = rowsT mk ed n n 0) (hy : y.data.toList = rowsT mk' ed' n n 0) (ht : Trn n k mk ed mk' ed' n 0) :
    flt x f s = flt y f s ∧ (flt x f s = 0 → ∃ H I : Nat → Bool, sol x f s = (bs (bitsU H n), 0) ∧ sol y f s = (bs (bitsU I n), 0) ∧ ∀ i, i < n → H i = I ((i + k) % n)) := by
  have c1 := plan_chk h0 hn hx
  have c2 := plan_chk h0 hn hy
  have s1 := plan_size hn hx
  have s2 := plan_size hn hy
  obtain ⟨_, gn, _, _⟩ := plan_read h0 hn hx
  obtain ⟨_, gn', _, _⟩ := plan_read h0 hn hy
  have hfl : flt x f s = flt y f s := by
    unfold flt
    rw [c1, c2]
    by_cases h : 30 < s.size
    · rw [if_pos (.inr h), if_pos (.inr h)]
    · rw [if_neg (show ¬ (210 < x.size ∨ 30 < s.size) by omega), if_neg (show ¬ (210 < y.size ∨ 30 < s.size) by omega)]
  refine ⟨hfl, fun hz => ?_⟩
  have hz' : flt y f s = 0 := by rw [← hfl]; exact hz
  obtain ⟨_, _, _, _, hfr⟩ := flt_zero hz
  have gt := (frm_zero hfr).2
  refine ⟨_, _, by rw [sol_zero hz, gn], by rw [sol_zero hz', gn'], fun i hi => ?_⟩
  have is := renum_iso h0 hn hk hx hy ht
  rw [Bool.eq_iff_iff, holdsB_iff is.gok _ gt i (by rw [gn]; exact hi), holdsB_iff is.hok _ gt _ (by rw [gn']; exact Nat.mod_lt _ h0)]
  exact iso_sat is _ gt i (by rw [gn]; exact hi)

end Go.Proofs.Ytcfbfdjmcabnkaa

namespace Go.Proofs.Ytcfbfdjmcabnkaa
open Go.RowKit Fw
open Go.Deep (BT)
set_option linter.unusedVariables false

theorem range_below {w w' : World} {b o : Nat} {cs : List Value} (h : w.rangeAt b o cs) (hb : Below w.heap.size w w') (hlt : b < w.heap.size) : w'.rangeAt b o cs := fun j v hv => (hb.cell (p := ⟨b, o + j, none⟩) hlt).trans (h j v hv)
theorem shape_cells (w w1 : World) (x y z : Value) (t : TypeId) (hb : Below (w.alloc (.cells #[x, y, z] t)).heap.size (w.alloc (.cells #[x, y, z] t)) w1) :
    w1.cell? ⟨w.heap.size, 0, none⟩ = some x ∧ w1.cell? ⟨w.heap.size, 1, none⟩ = some y ∧ w1.cell? ⟨w.heap.size, 2, none⟩ = some z := by
  have hlt : w.heap.size < (w.alloc (.cells #[x, y, z] t)).heap.size := by simp
  have hr := heap_alloc_new w (.cells #[x, y, z] t)
  refine ⟨?_, ?_, ?_⟩
  · rw [hb.cell (p := ⟨w.heap.size, 0, none⟩) hlt, cell_of_row _ _ _ _ _ _ hr]; rfl
  · rw [hb.cell (p := ⟨w.heap.size, 1, none⟩) hlt, cell_of_row _ _ _ _ _ _ hr]; rfl
  · rw [hb.cell (p := ⟨w.heap.size, 2, none⟩) hlt, cell_of_row _ _ _ _ _ _ hr]; rfl

set_option maxRecDepth 100000 in
set_option maxHeartbeats 8000000 in
theorem renum_walk (N : Int) (a1 a2 : Option Addr) (l1 c1 l2 c2 : Nat) (f s : ByteArray) (b : Int) (w : World) (hN : (Lit.int .i64 N).wf = true) (H1 : Hid (IsInts w a1 l1)) (H2 : Hid (IsInts w a2 l2)) (hf : f.size ≤ 9223372036854775807) (hb : (Lit.int .i64 b).wf = true) :
    Calls Try.prog 5 #[.agg #[.int .i64 N, .slice a1 l1 c1, .slice a2 l2 c2], .string f, .string s, .int .i64 b] w fun e w' => e = .returned (.bool true) ∧ Below w.heap.size w w' := by
  have HAW := fun W => awake_yes W
  have HPL := fun W (h : Hid (Below w.heap.size w W)) => plan_is N a1 a2 l1 c1 l2 c2 W hN (H1.out.below h.out) (H2.out.below h.out)
  have hb0 : Hid (Below w.heap.size w (w.alloc (.cells #[.int .i64 N, .slice a1 l1 c1, .slice a2 l2 c2] 24))) := below1 w _
  have HSO := fun g W => solve_all g f s W hf
  go_enter Try.func5, Try.ntmps5
  go_wp2_with (first
    | (go_at_call 16; refine (HAW _).mono ?_; rintro e w1 ⟨rfl, hb1⟩
       obtain ⟨k0, k1, k2⟩ := shape_cells _ _ _ _ _ _ hb1
       have hb01 : Hid (Below w.heap.size w w1) := Below.to hb0.out hb1)
    | (go_at_call 10; refine (HPL _ hb01).mono ?_; rintro e w2 ⟨hb2, n, hn0, hn6, mk, ed, rfl⟩
       have hlen := planCells_len n mk ed
       have hone := planCells_one n mk ed
       have hsz : (planCells n mk ed).toArray.size = 55 := by simp [planCells_len]
       obtain ⟨C, hC⟩ : ∃ C, C = planCells n mk ed := ⟨_, rfl⟩
       rw [← hC] at hlen hone hsz
       rw [← hC]
       have HC : Hid (C = planCells n mk ed) := hC
       clear hC)
    | (refine storeAt 30 55 Try.size30 (by rfl) _ _ (by rfl) w2.heap.size 0 C.toArray (by rfl) (by rfl) (there_newG _ _ _ 55 rfl) hsz hone ?_; intro w3 hb3 hz3 hk3 hr3 ho3 hf3
       have hs3 : w2.heap.size < w3.heap.size := by rw [hz3]; simp
       have HP3 : Hid (Pl w3 w2.heap.size n mk ed) := pl_of_range hs3 (by rw [← HC.out]; simpa using hr3) (fun j => (hf3 _).trans (frozen_of_row _ _ _ _ _ (heap_alloc_new w2 _)))
       have hb02 : Below w.heap.size w w2 := Below.to hb01.out hb2
       have hwle : w.heap.size ≤ w2.heap.size := hb02.size
       have HB3 : Hid (Below w.heap.size w w3) := hb02.trans (((below1 w2 _).trans hb3).mono hwle)
       have cn := HP3.out.cn
       have HTX0 := fun W => text_is n mk ed W hn6
       have HTB0 := fun k hk W => turned_is n k mk ed W hn0 hn6 hk
       rw [← HC.out] at HTX0 HTB0
       have HR3 : Hid (w3.rangeAt w2.heap.size 0 C) := by show World.rangeAt _ _ _ _; rw [HC.out]; exact HP3.out.range
       obtain ⟨X, hX⟩ : ∃ X, X = bs (rowsT mk ed n n 0) := ⟨_, rfl⟩
       rw [← hX] at HTX0
       have HX : Hid (X.data.toList = rowsT mk ed n n 0) := by show _ = _; rw [hX, bs_list]
       clear hr3 ho3 hf3 hk3 hz3 hb3 hb0 HPL hone hsz HC hb1 hb01 hb2 hb02 HAW k0 k1 k2 hX)
    | (go_at_call 14; refine (pick_is b n _ hb hn0 (by omega)).mono ?_; rintro e w4 ⟨⟨k, hk, rfl⟩, rfl⟩
       have HTB := fun W => HTB0 k hk W
       clear HTB0)
    | (refine loadT 30 55 Try.size30 Try.row30 (by rfl) _ (by rfl) w2.heap.size (by rfl) C HR5.out hlen ?_; clear HR5)
    | (refine loadT 30 55 Try.size30 Try.row30 (by rfl) _ (by rfl) w2.heap.size (by rfl) C HR3.out hlen ?_)
    | (go_at_call_of 11 (Value.agg C.toArray); refine (HTX0 _).mono ?_; rintro e w4 ⟨rfl, hb4⟩
       have HP4 : Hid (Pl w4 w2.heap.size n mk ed) := HP3.out.below hb4 hs3
       have HB4 : Hid (Below w.heap.size w w4) := Below.to HB3.out hb4
       have cn4 := HP4.out.cn
       have HR4 : Hid (w4.rangeAt w2.heap.size 0 C) := range_below HR3.out hb4 hs3
       clear HTX0 HR3 hb4 HP3 HB3)
    | (go_at_call_of 17 (Value.string X); refine (HSO X _).mono ?_; rintro e w5 ⟨rfl, hb5⟩
       have hs4 := HP4.out.lt
       have HP5 : Hid (Pl w5 w2.heap.size n mk ed) := HP4.out.below hb5 hs4
       have HB5 : Hid (Below w.heap.size w w5) := Below.to HB4.out hb5
       have HR5 : Hid (w5.rangeAt w2.heap.size 0 C) := range_below HR4.out hb5 hs4
       obtain ⟨x1, hx1⟩ : ∃ x1, x1 = (sol X f s).1 := ⟨_, rfl⟩
       obtain ⟨x2, hx2⟩ : ∃ x2, x2 = (sol X f s).2 := ⟨_, rfl⟩
       rw [← hx1, ← hx2]
       have HX1 : Hid (x1 = (sol X f s).1) := hx1
       have HX2 : Hid (x2 = (sol X f s).2) := hx2
       clear hx1 hx2 cn4 HP4 HB4 HR4 hb5)
    | (go_at_call 18; refine (HTB _).mono ?_; rintro e w6 ⟨hb6, mk', ed', htr, rfl⟩
       have HTR : Hid (Trn n k mk ed mk' ed' n 0) := htr
       have HTY0 := fun W => text_is n mk' ed' W hn6
       obtain ⟨D, hD⟩ : ∃ D, D = planCells n mk' ed' := ⟨_, rfl⟩
       rw [← hD] at HTY0
       rw [← hD]
       clear hD htr HTB
       obtain ⟨Y, hY⟩ : ∃ Y, Y = bs (rowsT mk' ed' n n 0) := ⟨_, rfl⟩
       rw [← hY] at HTY0
       have HY : Hid (Y.data.toList = rowsT mk' ed' n n 0) := by show _ = _; rw [hY, bs_list]
       clear hY
       have HP6 : Hid (Pl w6 w2.heap.size n mk ed) := HP5.out.below hb6 HP5.out.lt
       have HB6 : Hid (Below w.heap.size w w6) := Below.to HB5.out hb6
       clear HP5 HB5 hb6)
    | (go_at_call_of 11 (Value.agg D.toArray); refine (HTY0 _).mono ?_; rintro e w7 ⟨rfl, hb7⟩
       have HP7 : Hid (Pl w7 w2.heap.size n mk ed) := HP6.out.below hb7 HP6.out.lt
       have HB7 : Hid (Below w.heap.size w w7) := Below.to HB6.out hb7
       clear HTY0 HP6 HB6 hb7))
  obtain ⟨hfl, hz⟩ := renum_pure (f := f) (s := s) hn0 hn6 hk HX.out HY.out HTR.out
  have HS2 := fun W => HSO Y W
  by_cases h0 : flt X f s = 0
  · obtain ⟨H, I, s1, s2, hHI⟩ := hz h0
    have hx2 : x2 = 0 := by rw [HX2.out, s1]
    have hx1 : x1 = bs (bitsU H n) := by rw [HX1.out, s1]
    subst hx2
    rw [s2] at HS2
    have hl1 : x1.size = n := by rw [hx1, bs_size, bitsU_len]
    have hl2 : (bs (bitsU I n)).size = n := by rw [bs_size, bitsU_len]
    have HXX : Hid (∀ (i : Nat) (hi : i < x1.size), x1[i].toNat = if H i = true then 49 else 48) := fun i hi => bits_at H n i x1 hx1 hi
    obtain ⟨Z, hZ⟩ : ∃ Z, Z = bs (bitsU I n) := ⟨_, rfl⟩
    have HZZ : Hid (∀ (i : Nat) (hi : i < Z.size), Z[i].toNat = if I i = true then 49 else 48) := fun i hi => bits_at I n i Z hZ hi
    rw [← hZ] at hl2 HS2
    have HHI : Hid (∀ i, i < n → H i = I ((i + k) % n)) := hHI
    clear hx1 hZ s1 s2 hHI hfl hz h0 HX1 HX2 HSO HX HY HTR
    refine (HS2 _).mono ?_
    rintro e w8 ⟨rfl, hb8⟩
    have HP8 : Hid (Pl w8 w2.heap.size n mk ed) := HP7.out.below hb8 HP7.out.lt
    have HB8 : Hid (Below w.heap.size w w8) := Below.to HB7.out hb8
    have cn8 := HP8.out.cn
    clear hb8 HP7 HB7 HS2
    have q1 : ((x1.size : Int) != (n : Int)) = false := by rw [bne_eq_false_iff_eq]; omega
    have q2 : ((Z.size : Int) != (n : Int)) = false := by rw [bne_eq_false_iff_eq]; omega
    go_wp2_with fail
    clear cn8
    go_loopw [16] (fun q wr => ∃ i : Nat, i ≤ n ∧ q = .int .i64 i ∧ Hid (Pl wr w2.heap.size n mk ed) ∧ Hid (Below w.heap.size w wr)) (fun q _ => n - (intOf q).toNat)
    case atStart => exact ⟨0, by omega, rfl, HP8, HB8⟩
    case round =>
      clear HP8 HB8
      obtain ⟨i, hi, rfl, HP, HB⟩ := hrel
      have cn8 := HP.out.cn
      by_cases hlt : i < n
      · obtain ⟨m, hm⟩ : ∃ m, m = (i + k) % n := ⟨_, rfl⟩
        have hmn : m < n := by rw [hm]; exact Nat.mod_lt _ hn0
        have e1 : ((i : Int) + (k : Int)) % (n : Int) = (m : Int) := by rw [hm]; simp
        have e2 : ((i : Int) + (k : Int)).tmod (n : Int) = (m : Int) := by rw [Int.tmod_eq_emod_of_nonneg (by omega)]; exact e1
        have hiX : i < x1.size := by omega
        have hmZ : m < Z.size := by omega
        have hxi := HXX.out i hiX
        have hzm := HZZ.out m hmZ
        have hh := HHI.out i hlt
        rw [← hm] at hh
        have r1 : ((x1[i].toNat : Int) != (Z[m].toNat : Int)) = false := by rw [bne_eq_false_iff_eq, hxi, hzm, hh]
        clear hm e1 hxi hzm hh
        have i0 : (0 : Int) ≤ (i : Int) := by omega
        have i1 : (i : Int) < (x1.size : Int) := by omega
        have m0 : (0 : Int) ≤ (m : Int) := by omega
        have m1 : (m : Int) < (Z.size : Int) := by omega
        have n00 : ¬ n = 0 := by omega
        have n01 : ¬ (n : Int) = 0 := by omega
        have wk : IntKind.i64.wrap ((i : Int) + (k : Int)) = (i : Int) + (k : Int) := wrap_small _ (by clear e2; omega) (by clear e2; omega)
        go_wp2_with fail
        go_region
        all_goals
          go_wp2_with fail
          go_roundw
          case rel => exact ⟨i + 1, by omega, by go_num, HP.out.drew, HB.out.drew⟩
          case measure => simp [intOf]; omega
      · go_wp2_with fail
        go_ret
        exact ⟨rfl, HB.out⟩
  · have hx2 : x2 = flt X f s := by rw [HX2.out, sol_err h0]
    have hx1 : x1 = ByteArray.empty := by rw [HX1.out, sol_err h0]
    have hy0 : flt Y f s ≠ 0 := by rw [← hfl]; exact h0
    rw [sol_err hy0, ← hfl, ← hx2] at HS2
    rw [← hx2] at h0
    subst hx1
    have hne : ((x2 : Int) != 0) = true := by rw [bne_iff_ne]; omega
    clear hx2 hy0 hfl hz HX1 HX2 h0
    refine (HS2 _).mono ?_
    rintro e w8 ⟨rfl, hb8⟩
    have HB8 : Hid (Below w.heap.size w w8) := Below.to HB7.out hb8
    go_wp2_with fail
    go_ret
    exact ⟨rfl, HB8.out⟩

end Go.Proofs.Ytcfbfdjmcabnkaa

namespace Go.Proofs.Ytcfbfdjmcabnkaa
open Go.ChangeShapes Go.WideShapes Go.ChangeAt Go.RowKit Go.Deep
open Go.ChangeMaps (open_string shut_string)
set_option linter.unusedVariables false

set_option maxRecDepth 100000 in
theorem renumbered_lifted (os : Os) (started : os.Started) (H : Type) (enc : TypeId × Value → H) :
    ReturnsInHanded {} Try.checked os 5 .any (Rows.renumberedSpec.pre6 enc Try.prog Try.f5 Rows.renumberedRow.domain false) (Rows.renumberedSpec.post enc Try.prog Try.f5 false true false false) := by
  refine returnsInHanded_of_change (C := Try.checked) own started (by kernel_rfl) Try.func5
    (ChangeSpec.witness6 (enc := enc) (C := Try.checked) false ⟨#[], #[.agg #[.int .i64 0, .slice none 0 0, .slice none 0 0], .string ByteArray.empty, .string ByteArray.empty, .int .i64 0], []⟩ 8 (by kernel_rfl) (by kernel_rfl) (by kernel_rfl) (by kernel_rfl)) ?_
  intro W base args ds gs before hval0 hW hcnd _
  have hval : ∀ (j : Nat) t v, Try.f5.params[j]? = some t → args[j]? = some v → Value.okWide Try.prog W .any base t v := hval0
  have hW' := hW
  obtain ⟨p, q, hA0, hV, rfl, hfz, hnd⟩ := hW
  have hA : DataW.TrodAll enc Try.prog W 0 (fun _ => true) true Try.f5.params.toList args.toList ds p := hA0
  rw [Try.params5] at hA hval
  obtain ⟨v0, vs0, d0, ds0, p0, q0, hargs0, rfl, rfl, h0, r0⟩ := trodAll_cons hA
  obtain ⟨v1, vs1, d1, ds1, p1, q1, hargs1, rfl, rfl, h1, r1⟩ := trodAll_cons r0
  obtain ⟨v2, vs2, d2, ds2, p2, q2, hargs2, rfl, rfl, h2, r2⟩ := trodAll_cons r1
  obtain ⟨v3, vs3, d3, ds3, p3, q3, hargs3, rfl, rfl, h3, r3⟩ := trodAll_cons r2
  obtain ⟨rfl, rfl, rfl⟩ := trodAll_nil r3
  obtain rfl : args = #[v0, v1, v2, v3] := by cases args; simp_all
  obtain ⟨rfl, rfl⟩ := trodVars_none hV
  have k0 := h0
  have lt0 : ∀ x ∈ p0, x.block < W.heap.size := by obtain ⟨m, hm⟩ := k0; exact DataW.trod_lt m _ _ _ hm
  obtain ⟨N, a1, l1, c1, a2, l2, c2, rfl, wN, I1, I2⟩ := shape_open (hval 0 24 v0 rfl rfl) h0
  obtain ⟨x1, rfl, rfl, rfl, w1⟩ := open_string Try.underlying9 (hval 1 9 v1 rfl rfl) h1
  obtain ⟨x2, rfl, rfl, rfl, w2⟩ := open_string Try.underlying9 (hval 2 9 v2 rfl rfl) h2
  obtain ⟨x3, rfl, rfl, rfl, w3⟩ := open_int Try.underlying3 (hval 3 3 v3 rfl rfl) h3
  clear hA0 hval0
  refine (renum_walk N a1 a2 l1 c1 l2 c2 x1 x2 x3 W wN I1 I2 (by simpa [maxLen] using w1) w3).mono fun e W' ⟨he, bel⟩ => ?_
  subst he
  exact ⟨_, rfl, _, _, _, [], _, [], hW', trodAll_mk1 (shut_bool Try.underlying4 _), (trodAll_cons_mk (Below.trod laidOut (by kernel_rfl) (of_decide_eq_true (by kernel_rfl)) k0 bel lt0) (trodAll_cons_mk (shut_string Try.underlying9 w1) (trodAll_cons_mk (shut_string Try.underlying9 w2) (trodAll_cons_mk (shut_int Try.underlying3 w3) trodAll_mk0)))), rfl, bel.frame _, fun h => by cases h⟩

theorem renumbered_holds : Rows.RenumberedSaid :=
  OpenClaim.holds_of_wide 5 Try.f5 rfl rfl rfl rfl rfl rfl rfl ⟨rfl, rfl, rfl, rfl, rfl⟩ rfl rfl rfl rfl rfl (by kernel_rfl) Try.func5 (by kernel_rfl)
    (of_decide_eq_true (by kernel_rfl)) (by unfold Func.isWrapper; first | (rw [if_pos (by decide +kernel)]; kernel_rfl) | (rw [if_neg (by decide +kernel)]; exact ⟨rfl, rfl⟩))
    (fun os started H enc _ => renumbered_lifted os started H enc)
#print axioms renumbered_holds
end Go.Proofs.Ytcfbfdjmcabnkaa

