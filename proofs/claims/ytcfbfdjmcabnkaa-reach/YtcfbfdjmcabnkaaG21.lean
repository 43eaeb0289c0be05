import Derived.Test.YtcfbfdjmcabnkaaG20
namespace Go.Proofs.Ytcfbfdjmcabnkaa
open Go.RowKit Fw
open Go.Deep (BT)
set_option linter.unusedVariables false

/-- the edges with the first i states their own next ones -/
def selfE (ed : Nat → Nat → Bool) (i : Nat) : Nat → Nat → Bool := fun a b => if a = b ∧ a < i then true else ed a b
theorem selfE_zero (ed : Nat → Nat → Bool) : selfE ed 0 = ed := by funext a b; simp [selfE]
theorem selfE_succ (ed : Nat → Nat → Bool) (i : Nat) : (fun x y => if x = i ∧ y = i then true else selfE ed i x y) = selfE ed (i + 1) := by
  funext x y
  unfold selfE
  by_cases h : x = i ∧ y = i
  · rw [if_pos h, if_pos (by omega)]
  · rw [if_neg h]
    by_cases h2 : x = y ∧ x < i
    · rw [if_pos h2, if_pos (by omega)]
    · rw [if_neg h2, if_neg (by omega)]
theorem selfE_self (ed : Nat → Nat → Bool) (n i : Nat) (hi : i < n) : selfE ed n i i = true := by
  unfold selfE; rw [if_pos ⟨rfl, hi⟩]

/-- the table of who comes to whom, behind k states; nothing is turned outside the states -/
def tab (n : Nat) (E : Nat → Nat → Bool) (k : Nat) : Nat → Nat → Bool := fun i j => if i < n ∧ j < n then fw E (fun _ => true) k i j else E i j
theorem tab_zero (n : Nat) (E : Nat → Nat → Bool) : tab n E 0 = E := by
  funext i j; unfold tab; split
  · simp [fw]
  · rfl
theorem tab_out {n : Nat} {E : Nat → Nat → Bool} {k i j : Nat} (h : n ≤ i ∨ n ≤ j) : tab n E k i j = E i j := by
  unfold tab; rw [if_neg (by omega)]
theorem tab_in {n : Nat} {E : Nat → Nat → Bool} {k i j : Nat} (hi : i < n) (hj : j < n) : tab n E k i j = fw E (fun _ => true) k i j := by
  unfold tab; rw [if_pos ⟨hi, hj⟩]
theorem tab_col {n : Nat} {E : Nat → Nat → Bool} {k i : Nat} (hi : i < n) (hk : k < n) : tab n E (k + 1) i k = tab n E k i k := by
  rw [tab_in hi hk, tab_in hi hk, fw_col]
theorem tab_row {n : Nat} {E : Nat → Nat → Bool} {k j : Nat} (hk : k < n) (hj : j < n) : tab n E (k + 1) k j = tab n E k k j := by
  rw [tab_in hk hj, tab_in hk hj, fw_row]
theorem tab_next {n : Nat} {E : Nat → Nat → Bool} {k i j : Nat} (hi : i < n) (hj : j < n) (hk : k < n) : tab n E (k + 1) i j = (tab n E k i j || (tab n E k i k && tab n E k k j)) := by
  rw [tab_in hi hj, tab_in hi hj, tab_in hi hk, tab_in hk hj, fw]

set_option maxRecDepth 100000 in
set_option maxHeartbeats 8000000 in
theorem reach_walk (N : Int) (a1 a2 : Option Addr) (l1 c1 l2 c2 : Nat) (w : World) (hN : (Lit.int .i64 N).wf = true) (H1 : Hid (IsInts w a1 l1)) (H2 : Hid (IsInts w a2 l2)) :
    Calls Try.prog 3 #[.agg #[.int .i64 N, .slice a1 l1 c1, .slice a2 l2 c2]] w fun e w' => e = .returned (.bool true) ∧ Below w.heap.size w w' := by
  have HPL := fun W (h1 : Hid (IsInts W a1 l1)) (h2 : Hid (IsInts W a2 l2)) => plan_is N a1 a2 l1 c1 l2 c2 W hN h1 h2
  have hb0 : Below w.heap.size w (w.alloc (.cells #[.int .i64 N, .slice a1 l1 c1, .slice a2 l2 c2] 24)) := below1 w _
  have G1 : Hid (IsInts (w.alloc (.cells #[.int .i64 N, .slice a1 l1 c1, .slice a2 l2 c2] 24)) a1 l1) := H1.out.below hb0
  have G2 : Hid (IsInts (w.alloc (.cells #[.int .i64 N, .slice a1 l1 c1, .slice a2 l2 c2] 24)) a2 l2) := H2.out.below hb0
  go_enter Try.func3, Try.ntmps3
  go_wp2_with (first
    | (go_at_call 10; refine (HPL _ G1 G2).mono ?_; rintro e w1 ⟨hb1, n, hn0, hn6, mk, ed, rfl⟩
       have hlen := planCells_len n mk ed
       have hone := planCells_one n mk ed
       have hsz : (planCells n mk ed).toArray.size = 55 := by simp [planCells_len]
       obtain ⟨C, hC⟩ : ∃ C, C = planCells n mk ed := ⟨_, rfl⟩
       rw [← hC] at hlen hone hsz
       rw [← hC]
       have HC : Hid (C = planCells n mk ed) := hC
       clear hC)
    | (refine storeAt 30 55 Try.size30 (by rfl) _ _ (by rfl) w1.heap.size 0 C.toArray (by rfl) (by rfl) (there_newG _ _ _ 55 rfl) hsz hone ?_; intro w2 hb2 hz2 hk2 hr2 ho2 hf2))
  have hs2 : w1.heap.size < w2.heap.size := by rw [hz2]; simp
  have HP2 : Hid (Pl w2 w1.heap.size n mk ed) := pl_of_range hs2 (by rw [← HC.out]; simpa using hr2) (fun j => (hf2 _).trans (frozen_of_row _ _ _ _ _ (heap_alloc_new w1 _)))
  have hb01 : Below w.heap.size w w1 := Below.to hb0 hb1
  have hwle : w.heap.size ≤ w1.heap.size := hb01.size
  have hbel2 : Below w.heap.size w w2 := hb01.trans (((below1 w1 _).trans hb2).mono hwle)
  clear hr2 ho2 hf2 hk2 hz2 hb2 G1 G2 hb0 HPL hlen hone hsz HC hb1 hb01
  go_loopw [4] (fun q wr => ∃ i : Nat, i ≤ n ∧ q = .int .i64 i ∧ Below w.heap.size w wr ∧ w1.heap.size < wr.heap.size ∧ Hid (Pl wr w1.heap.size n mk (selfE ed i))) (fun q _ => n - (intOf q).toNat)
  case atStart => exact ⟨0, by omega, rfl, hbel2, hs2, by rw [selfE_zero]; exact HP2⟩
  case round =>
    clear hbel2 hs2 HP2
    obtain ⟨i, hi, rfl, hbel, hsz, HP⟩ := hrel
    have cn := HP.out.cn
    by_cases hlt : i < n
    · have i0 : (0 : Int) ≤ (i : Int) := by omega
      have i1 : (i : Int) < 6 := by omega
      have ce := HP.out.ce i i (by omega) (by omega)
      have fz := HP.out.fz (19 + i * 6 + i)
      go_wp2_with fail
      go_roundw
      case rel => exact ⟨i + 1, by omega, by go_num, hbel.setCell (by simp; omega) _, by simpa using hsz, by
        show Pl _ _ _ _ _
        rw [← selfE_succ]
        exact HP.out.edge i i (by omega) (by omega) true⟩
      case measure => simp [intOf]; omega
    · obtain ⟨E, hE⟩ : ∃ E, E = selfE ed n := ⟨_, rfl⟩
      have hin : i = n := by omega
      have HPE : Hid (Pl wr w1.heap.size n mk E) := by
        rw [hin] at HP
        rw [hE]
        exact HP
      have HSELF : Hid (∀ i, i < n → E i i = true) := fun i hi => by rw [hE]; exact selfE_self ed n i hi
      clear hin hE HP cn
      have cn := HPE.out.cn
      go_wp2_with (first
        | (refine loadAtT 28 36 Try.size28 Try.row28 (by rfl) _ (by rfl) w1.heap.size 19 (by rfl) (bools 36 (flat6 E)) HPE.out.edges (bools_len _ _) ?_)
        | (refine storeAt 28 36 Try.size28 (by rfl) _ _ (by rfl) wr.heap.size 0 (bools 36 (flat6 E)).toArray (by rfl) (by rfl) (mat_new wr 28 _ rfl).there (bools_size _ _) (bools_one _ _) ?_; intro w3 hb3 hz3 hk3 hr3 ho3 hf3))
      have hfrz3 : ∀ o, w3.frozen? ⟨wr.heap.size, o, none⟩ = false := fun o => (hf3 _).trans (frozen_of_row _ _ _ _ _ (heap_alloc_new wr _))
      clear ho3 hf3
      have hs3 : w3.heap.size = wr.heap.size + 1 := by rw [hz3]; simp
      have HP3 : Hid (Pl w3 w1.heap.size n mk E) := HPE.out.below ((below1 wr _).trans hb3) HPE.out.lt
      have HM3 : Hid (Mat w3 wr.heap.size E) := mat_of_range (by omega) (by simpa using hr3) (fun o _ => hfrz3 o)
      have hbel3 : Below w.heap.size w w3 := hbel.trans (((below1 wr _).trans hb3).mono hbel.size)
      have q0 : w1.heap.size < wr.heap.size := hsz
      obtain ⟨wb, hwb⟩ : ∃ wb, wb = wr.heap.size := ⟨_, rfl⟩
      rw [← hwb] at hs3 HM3 q0
      rw [← hwb]
      have hwb0 : w.heap.size ≤ wb := by rw [hwb]; exact hbel.size
      clear hwb hb3 hz3 hk3 hr3 hfrz3 hbel hsz HPE cn
      have e1 : wb ≠ w1.heap.size := by omega
      go_loopw [6] (fun q wr => ∃ c : Nat, c ≤ n ∧ q = .int .i64 c ∧ Below w.heap.size w wr ∧ wr.heap.size = wb + 1 ∧ Hid (Pl wr w1.heap.size n mk E) ∧ Hid (Mat wr wb (tab n E c))) (fun q _ => n - (intOf q).toNat)
      case atStart => exact ⟨0, by omega, rfl, hbel3, hs3, HP3, by rw [tab_zero]; exact HM3⟩
      case round =>
        clear hbel3 hs3 HP3 HM3
        obtain ⟨c, hc, rfl, hbel, hs, HP, HM⟩ := hrel
        have cn := HP.out.cn
        by_cases hcl : c < n
        · go_wp2_with fail
          clear cn
          go_loopw [7] (fun q wr => ∃ i : Nat, i ≤ n ∧ q = .int .i64 i ∧ Below w.heap.size w wr ∧ wr.heap.size = wb + 1 ∧ Hid (Pl wr w1.heap.size n mk E) ∧ Hid (Mat wr wb (half (tab n E (c + 1)) (tab n E c) i 0))) (fun q _ => n - (intOf q).toNat)
          case atStart => exact ⟨0, by omega, rfl, hbel, hs, HP, HM.out.congr fun i j _ _ => (half_none i j).symm⟩
          case round =>
            clear hbel hs HP HM
            obtain ⟨i, hi, rfl, hbel, hs, HP, HM⟩ := hrel
            have cn := HP.out.cn
            by_cases hil : i < n
            · go_wp2_with fail
              clear cn
              go_loopw [8] (fun q wr => ∃ j : Nat, j ≤ n ∧ q = .int .i64 j ∧ Below w.heap.size w wr ∧ wr.heap.size = wb + 1 ∧ Hid (Pl wr w1.heap.size n mk E) ∧ Hid (Mat wr wb (half (tab n E (c + 1)) (tab n E c) i j))) (fun q _ => n - (intOf q).toNat)
              case atStart => exact ⟨0, by omega, rfl, hbel, hs, HP, HM⟩
              case round =>
                clear hbel hs HP HM
                obtain ⟨j, hj, rfl, hbel, hs, HP, HM⟩ := hrel
                have cn := HP.out.cn
                by_cases hjl : j < n
                · have cij := HM.out.c i j (by omega) (by omega)
                  have cic := HM.out.c i c (by omega) (by omega)
                  have ccj := HM.out.c c j (by omega) (by omega)
                  rw [half_here] at cij
                  rw [half_same (tab_col hil hcl)] at cic
                  rw [half_same (tab_row hcl hjl)] at ccj
                  have zm := HM.out.z (i * 6 + j) (by omega)
                  have i0 : (0 : Int) ≤ (i : Int) := by omega
                  have i1 : (i : Int) < 6 := by omega
                  have j0 : (0 : Int) ≤ (j : Int) := by omega
                  have j1 : (j : Int) < 6 := by omega
                  have c0 : (0 : Int) ≤ (c : Int) := by omega
                  have c1' : (c : Int) < 6 := by omega
                  obtain ⟨x, hx⟩ : ∃ x, x = tab n E c i j := ⟨_, rfl⟩
                  obtain ⟨y, hy⟩ : ∃ y, y = tab n E c i c := ⟨_, rfl⟩
                  obtain ⟨z, hz⟩ : ∃ z, z = tab n E c c j := ⟨_, rfl⟩
                  have HV : Hid (tab n E (c + 1) i j = (x || (y && z))) := by show _ = _; rw [tab_next hil hjl hcl, ← hx, ← hy, ← hz]
                  rw [← hx] at cij
                  rw [← hy] at cic
                  rw [← hz] at ccj
                  clear hx hy hz
                  cases x with
                  | true =>
                    go_wp2_with fail
                    go_region
                    all_goals
                      go_wp2
                      go_roundw
                      case rel => exact ⟨j + 1, by omega, by go_num, (hbel.setCell (by simp; omega) _).drew, by simpa using hs, (HP.out.setOther _ (by simp; omega)).drew, (mat_step HM.out (by omega) (by omega) (by rw [HV.out]; rfl)).drew⟩
                      case measure => simp [intOf]; omega
                  | false =>
                    cases y with
                    | true =>
                      go_wp2_with fail
                      go_region
                      all_goals
                        go_wp2
                        go_roundw
                        case rel => exact ⟨j + 1, by omega, by go_num, (hbel.setCell (by simp; omega) _).drew, by simpa using hs, (HP.out.setOther _ (by simp; omega)).drew, (mat_step HM.out (by omega) (by omega) (by rw [HV.out]; simp)).drew⟩
                        case measure => simp [intOf]; omega
                    | false =>
                      go_wp2_with fail
                      go_region
                      all_goals
                        go_wp2
                        go_roundw
                        case rel => exact ⟨j + 1, by omega, by go_num, (hbel.setCell (by simp; omega) _).drew, by simpa using hs, (HP.out.setOther _ (by simp; omega)).drew, (mat_step HM.out (by omega) (by omega) (by rw [HV.out]; rfl)).drew⟩
                        case measure => simp [intOf]; omega
                · go_wp2_with fail
                  go_roundw
                  case rel => exact ⟨i + 1, by omega, by go_num, hbel, hs, HP, HM.out.congr fun a b _ _ => half_row (n := n) (by omega) (fun b hb => by rw [tab_out (.inr hb), tab_out (.inr hb)]) a b⟩
                  case measure => simp [intOf]; omega
            · go_wp2_with fail
              go_roundw
              case rel => exact ⟨c + 1, by omega, by go_num, hbel, hs, HP, HM.out.congr fun a b _ _ => half_all (n := n) (by omega) (fun a b ha => by rw [tab_out (.inl ha), tab_out (.inl ha)]) a b⟩
              case measure => simp [intOf]; omega
        · have hcn : c = n := by omega
          have HMN : Hid (Mat wr wb (tab n E n)) := by
            rw [hcn] at HM
            exact HM
          clear HM hcn
          obtain ⟨F1, hF1⟩ : ∃ F1 : Nat → Bool, F1 = fun i => anyU (fun j => tab n E n i j && mk j 0) n := ⟨_, rfl⟩
          obtain ⟨F3, hF3⟩ : ∃ F3 : Nat → Bool, F3 = fun i => anyU (fun j => E i j && mk j 0) n := ⟨_, rfl⟩
          have HF1 : Hid (∀ i, anyU (fun j => tab n E n i j && mk j 0) n = F1 i) := fun i => by rw [hF1]
          have HF3 : Hid (∀ i, anyU (fun j => E i j && mk j 0) n = F3 i) := fun i => by rw [hF3]
          clear hF1 hF3
          go_wp2_with fail
          go_loopw [12] (fun q wr => ∃ i : Nat, i ≤ n ∧ q = .int .i64 i ∧ Below w.heap.size w wr ∧ Hid (Pl wr w1.heap.size n mk E) ∧ Hid (Mat wr wb (tab n E n)) ∧ Hid (Arr wr (wb + 1) 6 (upto i F1)) ∧ Hid (Arr wr (wb + 1 + 1) 6 (upto i fun i => mk i 0)) ∧ Hid (Arr wr (wb + 1 + 1 + 1) 6 (upto i F3))) (fun q _ => n - (intOf q).toNat)
          case atStart =>
            refine ⟨0, by omega, rfl, ((hbel.alloc (by omega) _).alloc (by simp; omega) _).alloc (by simp; omega) _, ((HP.out.below (below1 _ _) HP.out.lt).below (below1 _ _) (by simp; have := HP.out.lt; omega)).below (below1 _ _) (by simp; have := HP.out.lt; omega), ((HMN.out.alloc _).alloc _).alloc _, ?_, ?_, ?_⟩
            · show Arr _ _ _ _
              rw [upto_zero]
              exact ((arr_at wr (fun _ => false) 27 _ hs).alloc _).alloc _
            · show Arr _ _ _ _
              rw [upto_zero]
              exact (arr_at _ (fun _ => false) 27 _ (by simp; omega)).alloc _
            · show Arr _ _ _ _
              rw [upto_zero]
              exact arr_at _ (fun _ => false) 27 _ (by simp; omega)
          case round =>
            clear hbel hs HP HMN cn
            obtain ⟨i, hi, rfl, hbel, HP, HM, HA, HB, HC⟩ := hrel
            have cn := HP.out.cn
            by_cases hil : i < n
            · have i0 : (0 : Int) ≤ (i : Int) := by omega
              have i1 : (i : Int) < 6 := by omega
              have cb := HB.out.c i (by omega)
              have zb := HB.out.z i (by omega)
              have cmk := HP.out.cm i 0 (by omega) (by omega)
              rw [Nat.add_zero] at cmk
              go_wp2_with fail
              go_loopw [13] (fun q wr => ∃ j : Nat, j ≤ n ∧ q = .int .i64 j ∧ Below w.heap.size w wr ∧ Hid (Pl wr w1.heap.size n mk E) ∧ Hid (Mat wr wb (tab n E n)) ∧ Hid (Arr wr (wb + 1) 6 (part i F1 (anyU (fun j => tab n E n i j && mk j 0) j))) ∧ Hid (Arr wr (wb + 1 + 1) 6 (upto (i + 1) fun i => mk i 0)) ∧ Hid (Arr wr (wb + 1 + 1 + 1) 6 (part i F3 (anyU (fun j => E i j && mk j 0) j)))) (fun q _ => n - (intOf q).toNat)
              case atStart => exact ⟨0, by omega, rfl, hbel.setCell (by simp <;> omega) _, HP.out.setOther _ (by simp <;> omega), HM.out.setOther _ (by simp <;> omega), (HA.out.setOther _ (by simp <;> omega)).partIn, HB.out.next (by omega) _ rfl, (HC.out.setOther _ (by simp <;> omega)).partIn⟩
              case round =>
                clear hbel HP HM HA HB HC cn cb zb cmk
                obtain ⟨j, hj, rfl, hbel, HP, HM, HA, HB, HC⟩ := hrel
                have cn := HP.out.cn
                by_cases hjl : j < n
                · have j0 : (0 : Int) ≤ (j : Int) := by omega
                  have j1 : (j : Int) < 6 := by omega
                  have ca := HA.out.c i (by omega)
                  have za := HA.out.z i (by omega)
                  have cc := HC.out.c i (by omega)
                  have zc := HC.out.z i (by omega)
                  rw [part_here] at ca cc
                  have cw := HM.out.c i j (by omega) (by omega)
                  have ce := HP.out.ce i j (by omega) (by omega)
                  have cm := HP.out.cm j 0 (by omega) (by omega)
                  rw [Nat.add_zero] at cm
                  have q1 : wb + 1 + 1 + 1 ≠ wb + 1 := by omega
                  have q2 : wb + 1 ≠ wb + 1 + 1 + 1 := by omega
                  have HX : Hid (∀ (u v : Bool), u = anyU (fun j => tab n E n i j && mk j 0) (j + 1) → v = anyU (fun j => E i j && mk j 0) (j + 1) →
                      Below w.heap.size w ((wr.setCell ⟨wb + 1, i, none⟩ (.bool u)).setCell ⟨wb + 1 + 1 + 1, i, none⟩ (.bool v)) ∧ Hid (Pl ((wr.setCell ⟨wb + 1, i, none⟩ (.bool u)).setCell ⟨wb + 1 + 1 + 1, i, none⟩ (.bool v)) w1.heap.size n mk E) ∧ Hid (Mat ((wr.setCell ⟨wb + 1, i, none⟩ (.bool u)).setCell ⟨wb + 1 + 1 + 1, i, none⟩ (.bool v)) wb (tab n E n)) ∧
                      Hid (Arr ((wr.setCell ⟨wb + 1, i, none⟩ (.bool u)).setCell ⟨wb + 1 + 1 + 1, i, none⟩ (.bool v)) (wb + 1) 6 (part i F1 (anyU (fun j => tab n E n i j && mk j 0) (j + 1)))) ∧ Hid (Arr ((wr.setCell ⟨wb + 1, i, none⟩ (.bool u)).setCell ⟨wb + 1 + 1 + 1, i, none⟩ (.bool v)) (wb + 1 + 1) 6 (upto (i + 1) fun i => mk i 0)) ∧ Hid (Arr ((wr.setCell ⟨wb + 1, i, none⟩ (.bool u)).setCell ⟨wb + 1 + 1 + 1, i, none⟩ (.bool v)) (wb + 1 + 1 + 1) 6 (part i F3 (anyU (fun j => E i j && mk j 0) (j + 1))))) := by
                    intro u v hu hv
                    exact ⟨(hbel.setCell (by simp <;> omega) _).setCell (by simp <;> omega) _, (HP.out.setOther _ (by simp <;> omega)).setOther _ (by simp <;> omega), (HM.out.setOther _ (by simp <;> omega)).setOther _ (by simp <;> omega), (HA.out.part (by omega) _ _ hu).setOther _ (by simp <;> omega), (HB.out.setOther _ (by simp <;> omega)).setOther _ (by simp <;> omega), (HC.out.setOther _ (by simp <;> omega)).part (by omega) _ _ hv⟩
                  have hsuc1 := anyU_succ (fun j => tab n E n i j && mk j 0) j
                  have hsuc2 := anyU_succ (fun j => E i j && mk j 0) j
                  obtain ⟨x1, hx1⟩ : ∃ x1, x1 = anyU (fun j => tab n E n i j && mk j 0) j := ⟨_, rfl⟩
                  obtain ⟨x2, hx2⟩ : ∃ x2, x2 = anyU (fun j => E i j && mk j 0) j := ⟨_, rfl⟩
                  obtain ⟨y1, hy1⟩ : ∃ y1, y1 = tab n E n i j := ⟨_, rfl⟩
                  obtain ⟨y2, hy2⟩ : ∃ y2, y2 = E i j := ⟨_, rfl⟩
                  obtain ⟨z, hz⟩ : ∃ z, z = mk j 0 := ⟨_, rfl⟩
                  rw [← hx1] at ca hsuc1
                  rw [← hx2] at cc hsuc2
                  rw [← hy1] at cw
                  rw [← hy2] at ce
                  rw [← hz] at cm
                  simp only [← hy1, ← hz] at hsuc1
                  simp only [← hy2, ← hz] at hsuc2
                  have HV1 : Hid (anyU (fun j => tab n E n i j && mk j 0) (j + 1) = (x1 || (y1 && z))) := hsuc1
                  have HV2 : Hid (anyU (fun j => E i j && mk j 0) (j + 1) = (x2 || (y2 && z))) := hsuc2
                  clear hsuc1 hsuc2 hx1 hx2 hy1 hy2 hz
                  cases x1 with
                  | true =>
                    cases x2 with
                    | true =>
                      go_wp2_with fail
                      go_roundw
                      case rel => exact ⟨j + 1, by omega, by go_num, HX.out _ _ (by rw [HV1.out]; rfl) (by rw [HV2.out]; rfl)⟩
                      case measure => simp [intOf]; omega
                    | false =>
                      cases y2 with
                      | true =>
                        go_wp2_with fail
                        go_roundw
                        case rel => exact ⟨j + 1, by omega, by go_num, HX.out _ _ (by rw [HV1.out]; rfl) (by rw [HV2.out]; simp)⟩
                        case measure => simp [intOf]; omega
                      | false =>
                        go_wp2_with fail
                        go_roundw
                        case rel => exact ⟨j + 1, by omega, by go_num, HX.out _ _ (by rw [HV1.out]; rfl) (by rw [HV2.out]; rfl)⟩
                        case measure => simp [intOf]; omega
                  | false =>
                    cases y1 with
                    | true =>
                      cases x2 with
                      | true =>
                        go_wp2_with fail
                        go_roundw
                        case rel => exact ⟨j + 1, by omega, by go_num, HX.out _ _ (by rw [HV1.out]; simp) (by rw [HV2.out]; rfl)⟩
                        case measure => simp [intOf]; omega
                      | false =>
                        cases y2 with
                        | true =>
                          go_wp2_with fail
                          go_roundw
                          case rel => exact ⟨j + 1, by omega, by go_num, HX.out _ _ (by rw [HV1.out]; simp) (by rw [HV2.out]; simp)⟩
                          case measure => simp [intOf]; omega
                        | false =>
                          go_wp2_with fail
                          go_roundw
                          case rel => exact ⟨j + 1, by omega, by go_num, HX.out _ _ (by rw [HV1.out]; simp) (by rw [HV2.out]; rfl)⟩
                          case measure => simp [intOf]; omega
                    | false =>
                      cases x2 with
                      | true =>
                        go_wp2_with fail
                        go_roundw
                        case rel => exact ⟨j + 1, by omega, by go_num, HX.out _ _ (by rw [HV1.out]; rfl) (by rw [HV2.out]; rfl)⟩
                        case measure => simp [intOf]; omega
                      | false =>
                        cases y2 with
                        | true =>
                          go_wp2_with fail
                          go_roundw
                          case rel => exact ⟨j + 1, by omega, by go_num, HX.out _ _ (by rw [HV1.out]; rfl) (by rw [HV2.out]; simp)⟩
                          case measure => simp [intOf]; omega
                        | false =>
                          go_wp2_with fail
                          go_roundw
                          case rel => exact ⟨j + 1, by omega, by go_num, HX.out _ _ (by rw [HV1.out]; rfl) (by rw [HV2.out]; rfl)⟩
                          case measure => simp [intOf]; omega
                · have hjn : j = n := by omega
                  have HA' : Hid (Arr wr (wb + 1) 6 (upto (i + 1) F1)) := by
                    refine HA.out.partOut ?_
                    rw [hjn]; exact HF1.out i
                  have HC' : Hid (Arr wr (wb + 1 + 1 + 1) 6 (upto (i + 1) F3)) := by
                    refine HC.out.partOut ?_
                    rw [hjn]; exact HF3.out i
                  clear hjn HA HC
                  go_wp2_with fail
                  go_roundw
                  case rel => exact ⟨i + 1, by omega, by go_num, hbel, HP, HM, HA', HB, HC'⟩
                  case measure => simp [intOf]; omega
            · have hin : i = n := by omega
              have HTX := text_is n mk E
              obtain ⟨TX, hTX⟩ : ∃ TX, TX = bs (rowsT mk E n n 0) := ⟨_, rfl⟩
              obtain ⟨so1, so2, so3⟩ := reach_sols (s := TX) hn0 hn6 (by rw [hTX, bs_list]) HSELF.out (C := upto n F1) (D := upto n fun i => mk i 0) (E := upto n F3)
                (fun i hi => by
                  show (if i < n then F1 i else false) = true ↔ _
                  rw [if_pos hi, ← HF1.out i, anyU, List.any_eq_true]
                  constructor
                  · rintro ⟨j, hj, h⟩
                    have hj' := List.mem_range.1 hj
                    rw [Bool.and_eq_true, tab_in hi hj'] at h
                    exact ⟨j, hj', h⟩
                  · rintro ⟨j, hj, h⟩
                    exact ⟨j, List.mem_range.2 hj, by rw [Bool.and_eq_true, tab_in hi hj]; exact h⟩)
                (fun i hi => by show (if i < n then mk i 0 else false) = _; rw [if_pos hi])
                (fun i hi => by
                  show (if i < n then F3 i else false) = true ↔ _
                  rw [if_pos hi, ← HF3.out i, anyU, List.any_eq_true]
                  constructor
                  · rintro ⟨j, hj, h⟩
                    rw [Bool.and_eq_true] at h
                    exact ⟨j, List.mem_range.1 hj, h⟩
                  · rintro ⟨j, hj, h⟩
                    exact ⟨j, List.mem_range.2 hj, by rw [Bool.and_eq_true]; exact h⟩)
              rw [← hTX] at HTX
              rw [hin] at HA HB HC
              have t1 := fun W => tells_yes _ _ _ _ W (by decide) so1
              have t2 := fun W => tells_yes _ _ _ _ W (by decide) so2
              have t3 := fun W => tells_yes _ _ _ _ W (by decide) so3
              have HTX' := fun W => HTX W hn6
              obtain ⟨CA, hCA⟩ : ∃ CA, CA = upto n F1 := ⟨_, rfl⟩
              obtain ⟨CB, hCB⟩ : ∃ CB : Nat → Bool, CB = upto n fun i => mk i 0 := ⟨_, rfl⟩
              obtain ⟨CC, hCC⟩ : ∃ CC, CC = upto n F3 := ⟨_, rfl⟩
              rw [← hCA] at HA t1
              rw [← hCB] at HB t2
              rw [← hCC] at HC t3
              have o1 := fun W => ones_is CA n hn6 W
              have o2 := fun W => ones_is CB n hn6 W
              have o3 := fun W => ones_is CC n hn6 W
              obtain ⟨X1, hX1⟩ : ∃ X1, X1 = bs (bitsU CA n) := ⟨_, rfl⟩
              obtain ⟨X2, hX2⟩ : ∃ X2, X2 = bs (bitsU CB n) := ⟨_, rfl⟩
              obtain ⟨X3, hX3⟩ : ∃ X3, X3 = bs (bitsU CC n) := ⟨_, rfl⟩
              rw [← hX1] at o1 t1
              rw [← hX2] at o2 t2
              rw [← hX3] at o3 t3
              clear hX1 hX2 hX3 hCA hCB hCC so1 so2 so3 hTX HTX hin HM
              have hzz : w1.heap.size < wr.heap.size := HP.out.lt
              go_wp2_with (first
                | (refine loadT 30 55 Try.size30 Try.row30 (by rfl) _ (by rfl) w1.heap.size (by rfl) (planCells n mk E) HP.out.range (planCells_len _ _ _) ?_)
                | (go_at_call 11; refine (HTX' _).mono ?_; rintro e v1 ⟨rfl, hv1⟩
                   have cn1 := (hv1.cell (p := ⟨w1.heap.size, 0, none⟩) hzz).trans cn
                   have hz1 : w1.heap.size < v1.heap.size := Nat.lt_of_lt_of_le hzz hv1.size
                   have HA1 : Hid (Arr v1 (wb + 1) 6 CA) := HA.out.below hv1 HA.out.lt
                   have HB1 : Hid (Arr v1 (wb + 1 + 1) 6 CB) := HB.out.below hv1 HB.out.lt
                   have HC1 : Hid (Arr v1 (wb + 1 + 1 + 1) 6 CC) := HC.out.below hv1 HC.out.lt)
                | (refine loadT 27 6 Try.size27 Try.row27 (by rfl) _ (by rfl) (wb + 1) (by rfl) (bools 6 CA) HA1.out.range (bools_len _ _) ?_; rw [bools6])
                | (go_at_call_of 13 (Value.agg (six CA)); refine (o1 _).mono ?_; rintro e v2 ⟨rfl, hv2⟩)
                | (go_at_call_of 12 (Value.string X1); refine (t1 _).mono ?_; rintro e v3 ⟨rfl, hv3⟩
                   have hv13 : Below v1.heap.size v1 v3 := Below.to hv2 hv3
                   have cn3 := (hv13.cell (p := ⟨w1.heap.size, 0, none⟩) hz1).trans cn1
                   have hz3 : w1.heap.size < v3.heap.size := Nat.lt_of_lt_of_le hz1 hv13.size
                   have HB3 : Hid (Arr v3 (wb + 1 + 1) 6 CB) := HB1.out.below hv13 HB1.out.lt
                   have HC3 : Hid (Arr v3 (wb + 1 + 1 + 1) 6 CC) := HC1.out.below hv13 HC1.out.lt)
                | (refine loadT 27 6 Try.size27 Try.row27 (by rfl) _ (by rfl) (wb + 1 + 1) (by rfl) (bools 6 CB) HB3.out.range (bools_len _ _) ?_; rw [bools6])
                | (go_at_call_of 13 (Value.agg (six CB)); refine (o2 _).mono ?_; rintro e v4 ⟨rfl, hv4⟩)
                | (go_at_call_of 12 (Value.string X2); refine (t2 _).mono ?_; rintro e v5 ⟨rfl, hv5⟩
                   have hv35 : Below v3.heap.size v3 v5 := Below.to hv4 hv5
                   have cn5 := (hv35.cell (p := ⟨w1.heap.size, 0, none⟩) hz3).trans cn3
                   have HC5 : Hid (Arr v5 (wb + 1 + 1 + 1) 6 CC) := HC3.out.below hv35 HC3.out.lt)
                | (refine loadT 27 6 Try.size27 Try.row27 (by rfl) _ (by rfl) (wb + 1 + 1 + 1) (by rfl) (bools 6 CC) HC5.out.range (bools_len _ _) ?_; rw [bools6])
                | (go_at_call_of 13 (Value.agg (six CC)); refine (o3 _).mono ?_; rintro e v6 ⟨rfl, hv6⟩)
                | (go_at_call_of 12 (Value.string X3); refine (t3 _).mono ?_; rintro e v7 ⟨rfl, hv7⟩))
              go_ret
              exact ⟨rfl, Below.to (Below.to (Below.to (Below.to hbel hv1) hv13) hv35) (Below.to hv6 hv7)⟩

end Go.Proofs.Ytcfbfdjmcabnkaa

