import Derived.Test.YtcfbfdjmcabnkaaG24
import Derived.Test.YtcfbfdjmcabnkaaG23
namespace Go.Proofs.Ytcfbfdjmcabnkaa
open Go.RowKit Fw
open Go.Deep (BT)
set_option linter.unusedVariables false

/-- a ring, as far as it has been laid -/
def ringE (n i : Nat) : Nat → Nat → Bool := fun x y => decide (x < i) && decide (y = (x + 1) % n)
theorem ringE_zero (n : Nat) : ringE n 0 = fun _ _ => false := by
  funext x y
  simp [ringE]
theorem ringE_succ (n i x y : Nat) : (if x = i ∧ y = (i + 1) % n then true else ringE n i x y) = ringE n (i + 1) x y := by
  unfold ringE
  by_cases h : x = i
  · subst h
    by_cases h2 : y = (x + 1) % n
    · simp [h2]
    · simp [h2]
  · rw [if_neg (fun e => h e.1)]
    rw [show decide (x < i + 1) = decide (x < i) from decide_eq_decide.2 (by omega)]
theorem Pl.thereE {w : World} {b n : Nat} {mk ed : Nat → Nat → Bool} (h : Pl w b n mk ed) : w.there b 19 36 := by
  intro j hj
  have := h.there (19 + j) (by omega)
  rw [Nat.zero_add] at this
  exact this
theorem Pl.noEdge {w w' : World} {b n : Nat} {mk ed : Nat → Nat → Bool} (h : Pl w b n mk ed) (hs : w.heap.size ≤ w'.heap.size) (hr : w'.rangeAt b 19 (bools 36 fun _ => false)) (ho : ∀ j, j < 19 → w'.cell? ⟨b, j, none⟩ = w.cell? ⟨b, j, none⟩) (hf : ∀ p, w'.frozen? p = w.frozen? p) : Pl w' b n mk (fun _ _ => false) := by
  refine ⟨Nat.lt_of_lt_of_le h.lt hs, (ho 0 (by omega)).trans h.cn, fun i k hi hk => (ho _ (by omega)).trans (h.cm i k hi hk), fun i j hi hj => ?_, fun o => (hf _).trans (h.fz o)⟩
  have := hr (i * 6 + j) (.bool false) (by
    simp only [bools, List.getElem?_map]
    rw [List.getElem?_range (by omega)]
    rfl)
  rw [show 19 + (i * 6 + j) = 19 + i * 6 + j from by omega] at this
  exact this

theorem Arr.more {w : World} {B i : Nat} {F : Nat → Bool} (h : Arr w B 6 (upto i F)) (hi : i < 6) (v : Bool) (hv : v = F i) : Arr (w.setCell ⟨B, i, none⟩ (.bool v)) B 6 (upto (i + 1) F) := by
  have h1 := h.set i v hi
  have e : (fun j => if j = i then v else upto i F j) = upto (i + 1) F := by
    funext j
    by_cases c : j = i
    · subst c
      rw [if_pos rfl, hv]
      unfold upto
      rw [if_pos (by omega)]
    · rw [if_neg c]
      unfold upto
      by_cases d : j < i
      · rw [if_pos d, if_pos (by omega)]
      · rw [if_neg d, if_neg (by omega)]
  rw [e] at h1
  exact h1

/-- what stands while the ring's answers are reckoned -/
structure RI (w v : World) (p n B : Nat) (mk E : Nat → Nat → Bool) (U V X A D : Nat → Bool) (k : Nat) : Prop where
  bel : Below w.heap.size w v
  pl : Pl v p n mk E
  a0 : Arr v B 6 (upto k U)
  a1 : Arr v (B + 1) 6 (upto k V)
  a2 : Arr v (B + 1 + 1) 6 (upto k X)
  a3 : Arr v (B + 1 + 1 + 1) 6 (upto k A)
  a4 : Arr v (B + 1 + 1 + 1 + 1) 6 (upto k D)

theorem RI.below {w v v' : World} {p n B k : Nat} {mk E : Nat → Nat → Bool} {U V X A D : Nat → Bool} (h : RI w v p n B mk E U V X A D k) (hb : Below v.heap.size v v') : RI w v' p n B mk E U V X A D k :=
  ⟨Below.to h.bel hb, h.pl.below hb h.pl.lt, h.a0.below hb h.a0.lt, h.a1.below hb h.a1.lt, h.a2.below hb h.a2.lt, h.a3.below hb h.a3.lt, h.a4.below hb h.a4.lt⟩

theorem RI.more {w v : World} {p n B k : Nat} {mk E : Nat → Nat → Bool} {U V X A D : Nat → Bool} (h : RI w v p n B mk E U V X A D k) (hk : k < 6) (hp : p < B) (hw : w.heap.size ≤ B) (b0 b1 b2 b3 b4 : Bool) (h0 : b0 = U k) (h1 : b1 = V k) (h2 : b2 = X k) (h3 : b3 = A k) (h4 : b4 = D k) :
    RI w (((((v.setCell ⟨B, k, none⟩ (.bool b0)).setCell ⟨B + 1, k, none⟩ (.bool b1)).setCell ⟨B + 1 + 1, k, none⟩ (.bool b2)).setCell ⟨B + 1 + 1 + 1, k, none⟩ (.bool b3)).setCell ⟨B + 1 + 1 + 1 + 1, k, none⟩ (.bool b4)) p n B mk E U V X A D (k + 1) := by
  refine ⟨?_, ?_, ?_, ?_, ?_, ?_, ?_⟩
  · exact ((((h.bel.setCell (by simp; omega) _).setCell (by simp; omega) _).setCell (by simp; omega) _).setCell (by simp; omega) _).setCell (by simp; omega) _
  · exact ((((h.pl.setOther _ (by simp; omega)).setOther _ (by simp; omega)).setOther _ (by simp; omega)).setOther _ (by simp; omega)).setOther _ (by simp; omega)
  · exact ((((h.a0.more hk _ h0).setOther _ (by simp <;> omega)).setOther _ (by simp <;> omega)).setOther _ (by simp <;> omega)).setOther _ (by simp <;> omega)
  · exact ((((h.a1.setOther _ (by simp <;> omega)).more hk _ h1).setOther _ (by simp <;> omega)).setOther _ (by simp <;> omega)).setOther _ (by simp <;> omega)
  · exact ((((h.a2.setOther _ (by simp <;> omega)).setOther _ (by simp <;> omega)).more hk _ h2).setOther _ (by simp <;> omega)).setOther _ (by simp <;> omega)
  · exact ((((h.a3.setOther _ (by simp <;> omega)).setOther _ (by simp <;> omega)).setOther _ (by simp <;> omega)).more hk _ h3).setOther _ (by simp <;> omega)
  · exact ((((h.a4.setOther _ (by simp <;> omega)).setOther _ (by simp <;> omega)).setOther _ (by simp <;> omega)).setOther _ (by simp <;> omega)).more hk _ h4

theorem anyU_iff {p : Nat → Bool} {n : Nat} : anyU p n = true ↔ ∃ d, d < n ∧ p d = true := by
  rw [anyU, List.any_eq_true]
  constructor
  · rintro ⟨d, hd, h⟩; exact ⟨d, List.mem_range.1 hd, h⟩
  · rintro ⟨d, hd, h⟩; exact ⟨d, List.mem_range.2 hd, h⟩

theorem lives_iff {n m : Nat} {mk : Nat → Nat → Bool} (hm : m < 3) {F : ByteArray} (hF : F = (⟨#[113, 114]⟩ : ByteArray).extract (2 - m) 2) :
    fairOk F = true ∧ (((decide (m < 2) || anyU (fun j => mk j 1) n) && (decide (m < 1) || anyU (fun j => mk j 2) n)) = true ↔ ∀ c ∈ fsOf F, ∃ d, d < n ∧ ∃ k, k < 3 ∧ mk d k = true ∧ c = 112 + k) := by
  have one : ∀ k, k < 3 → (anyU (fun j => mk j k) n = true ↔ ∃ d, d < n ∧ ∃ k', k' < 3 ∧ mk d k' = true ∧ 112 + k = 112 + k') := by
    intro k hk
    rw [anyU_iff]
    constructor
    · rintro ⟨d, hd, h⟩; exact ⟨d, hd, k, hk, h, rfl⟩
    · rintro ⟨d, hd, k', hk', h, e⟩
      obtain rfl : k = k' := by omega
      exact ⟨d, hd, h⟩
  obtain rfl | rfl | rfl : m = 0 ∨ m = 1 ∨ m = 2 := by omega
  · have e : F = ⟨#[]⟩ := by rw [hF]; rfl
    subst e
    refine ⟨by decide, ?_⟩
    rw [show fsOf ⟨#[]⟩ = [] from rfl]
    simp
  · have e : F = ⟨#[114]⟩ := by rw [hF]; rfl
    subst e
    refine ⟨by decide, ?_⟩
    rw [show fsOf ⟨#[114]⟩ = [112 + 2] from rfl, show (decide (1 < 2) || anyU (fun j => mk j 1) n) = true from rfl, show (decide (1 < 1) || anyU (fun j => mk j 2) n) = anyU (fun j => mk j 2) n from rfl, Bool.true_and, one 2 (by omega)]
    simp only [List.mem_singleton, forall_eq]
  · have e : F = ⟨#[113, 114]⟩ := by rw [hF]; rfl
    subst e
    refine ⟨by decide, ?_⟩
    rw [show fsOf ⟨#[113, 114]⟩ = [112 + 1, 112 + 2] from rfl, show (decide (2 < 2) || anyU (fun j => mk j 1) n) = anyU (fun j => mk j 1) n from rfl, show (decide (2 < 1) || anyU (fun j => mk j 2) n) = anyU (fun j => mk j 2) n from rfl, Bool.and_eq_true, one 1 (by omega), one 2 (by omega)]
    simp only [List.mem_cons, List.not_mem_nil, or_false, forall_eq_or_imp, forall_eq]

set_option maxRecDepth 100000 in
set_option maxHeartbeats 8000000 in
theorem rings_walk (N : Int) (a1 a2 : Option Addr) (l1 c1 l2 c2 : Nat) (b : Int) (w : World) (hN : (Lit.int .i64 N).wf = true) (H1 : Hid (IsInts w a1 l1)) (H2 : Hid (IsInts w a2 l2)) (hb : (Lit.int .i64 b).wf = true) :
    Calls Try.prog 4 #[.agg #[.int .i64 N, .slice a1 l1 c1, .slice a2 l2 c2], .int .i64 b] w fun e w' => e = .returned (.bool true) ∧ Below w.heap.size w w' := by
  have HPL := fun W (h1 : Hid (IsInts W a1 l1)) (h2 : Hid (IsInts W a2 l2)) => plan_is N a1 a2 l1 c1 l2 c2 W hN h1 h2
  have hb0 : Below w.heap.size w (w.alloc (.cells #[.int .i64 N, .slice a1 l1 c1, .slice a2 l2 c2] 24)) := below1 w _
  have G1 : Hid (IsInts (w.alloc (.cells #[.int .i64 N, .slice a1 l1 c1, .slice a2 l2 c2] 24)) a1 l1) := H1.out.below hb0
  have G2 : Hid (IsInts (w.alloc (.cells #[.int .i64 N, .slice a1 l1 c1, .slice a2 l2 c2] 24)) a2 l2) := H2.out.below hb0
  have HPK := fun W => pick_3 b W hb
  have HZ : Hid (∀ W : World, (W.alloc (.cells (bools 36 fun _ => false).toArray 28)).rangeAt W.heap.size 0 (bools 36 fun _ => false)) := by
    intro W j v hv
    rw [Nat.zero_add, cell_of_row _ _ _ _ _ _ (heap_alloc_new W _), List.getElem?_toArray]
    exact hv
  go_enter Try.func4, Try.ntmps4
  go_wp2_with (first
    | (go_at_call 10; refine (HPL _ G1 G2).mono ?_; rintro e w1 ⟨hb1, n, hn0, hn6, mk, ed, rfl⟩
       have hlen := planCells_len n mk ed
       have hone := planCells_one n mk ed
       have hsz : (planCells n mk ed).toArray.size = 55 := by simp [planCells_len]
       obtain ⟨C, hC⟩ : ∃ C, C = planCells n mk ed := ⟨_, rfl⟩
       rw [← hC] at hlen hone hsz
       rw [← hC]
       have HC : Hid (C = planCells n mk ed) := hC
       clear hC)
    | (refine storeAt 30 55 Try.size30 (by rfl) _ _ (by rfl) w1.heap.size 0 C.toArray (by rfl) (by rfl) (there_newG _ _ _ 55 rfl) hsz hone ?_; intro w2 hb2 hz2 hk2 hr2 ho2 hf2
       have hs2 : w1.heap.size < w2.heap.size := by rw [hz2]; simp
       have HP2 : Hid (Pl w2 w1.heap.size n mk ed) := pl_of_range hs2 (by rw [← HC.out]; simpa using hr2) (fun j => (hf2 _).trans (frozen_of_row _ _ _ _ _ (heap_alloc_new w1 _)))
       have hb01 : Below w.heap.size w w1 := Below.to hb0 hb1
       have hwle : w.heap.size ≤ w1.heap.size := hb01.size
       have HB2 : Hid (Below w.heap.size w w2) := hb01.trans (((below1 w1 _).trans hb2).mono hwle)
       have HE2 : Hid (w1.heap.size + 1 = w2.heap.size) := by show _ = _; rw [hz2]; simp
       clear hz2 hr2 ho2 hf2 hk2 hb2 G1 G2 hb0 HPL hlen hone hsz HC hb1 hb01)
    | (refine loadT 28 36 Try.size28 Try.row28 (by rfl) _ (by rfl) w2.heap.size (by rfl) (bools 36 fun _ => false) (HZ.out _) (bools_len _ _) ?_
       obtain ⟨Z, hZ⟩ : ∃ Z, Z = (bools 36 fun _ => false).toArray := ⟨_, rfl⟩
       have hZ1 : Z.size = 36 := by rw [hZ]; simp [bools_len]
       have hZ2 : Z.all (·.oneCell') = true := by rw [hZ]; exact bools_one 36 _
       have HZ3 : Hid (Z.toList = bools 36 fun _ => false) := by show _ = _; rw [hZ]
       rw [← hZ]
       clear hZ)
    | (refine storeAt 28 36 Try.size28 (by rfl) _ _ (by rfl) w1.heap.size 19 Z (by rfl) (by rfl) ((HP2.out.below (below1 _ _) HP2.out.lt).thereE) hZ1 hZ2 ?_; intro w3 hb3 hz3 hk3 hr3 ho3 hf3
       have HP3 : Hid (Pl w3 w1.heap.size n mk (fun _ _ => false)) := (HP2.out.below (below1 _ _) HP2.out.lt).noEdge (by rw [hz3]; exact Nat.le_refl _) (by rw [← HZ3.out]; exact hr3) (fun j hj => ho3 j (.inl hj)) hf3
       have HB3 : Hid (Below w.heap.size w w3) := HB2.out.trans (((below1 w2 _).mono (by omega)).trans (hb3.mono (by omega)))
       clear hb3 hz3 hk3 hr3 ho3 hf3 HZ3 hZ1 hZ2)
    | (go_at_call 14; refine (HPK _).mono ?_; rintro e w4 ⟨⟨m, hm, rfl⟩, rfl⟩))
  clear HP2 HB2 HE2 HPK HZ hs2
  go_loopw [8, 9, 10] (fun q r x wr => ∃ (i : Nat) (qb rb : Bool), i ≤ n ∧ q = .bool qb ∧ r = .bool rb ∧ x = .int .i64 i ∧ Hid (qb = (decide (m < 2) || anyU (fun j => mk j 1) i)) ∧ Hid (rb = (decide (m < 1) || anyU (fun j => mk j 2) i)) ∧ Hid (Pl wr w1.heap.size n mk (ringE n i)) ∧ Hid (Below w.heap.size w wr)) (fun _ _ x _ => n - (intOf x).toNat)
  case atStart => exact ⟨0, _, _, by omega, rfl, rfl, rfl, by
      show _ = _
      rw [anyU_zero, Bool.or_false]
      exact decide_eq_decide.2 (by omega), by
      show _ = _
      rw [anyU_zero, Bool.or_false]
      exact decide_eq_decide.2 (by omega), by rw [ringE_zero]; exact HP3, HB3⟩
  case round =>
    clear HP3 HB3
    obtain ⟨i, qb, rb, hi, rfl, rfl, rfl, HQ, HR, HP, HB⟩ := hrel
    have cn := HP.out.cn
    by_cases hlt : i < n
    · obtain ⟨t, ht⟩ : ∃ t, t = (i + 1) % n := ⟨_, rfl⟩
      have htn : t < n := by rw [ht]; exact Nat.mod_lt _ hn0
      have e1 : ((i : Int) + 1) % (n : Int) = (t : Int) := by rw [ht]; simp
      have e2 : ((i : Int) + 1).tmod (n : Int) = (t : Int) := by rw [Int.tmod_eq_emod_of_nonneg (by omega)]; exact e1
      have HT : Hid (t = (i + 1) % n) := ht
      clear ht e1
      have wk0 : IntKind.i64.wrap ((i : Int) + 1) = (i : Int) + 1 := wrap_small _ (by clear e2; omega) (by clear e2; omega)
      have i0 : (0 : Int) ≤ (i : Int) := by omega
      have i1 : (i : Int) < 6 := by omega
      have t0 : (0 : Int) ≤ (t : Int) := by omega
      have t1 : (t : Int) < 6 := by omega
      have n00 : ¬ n = 0 := by omega
      have n01 : ¬ (n : Int) = 0 := by omega
      have ce := HP.out.ce i t (by omega) (by omega)
      have fz := HP.out.fz (19 + i * 6 + t)
      have cm1 := HP.out.cm i 1 (by omega) (by omega)
      have cm2 := HP.out.cm i 2 (by omega) (by omega)
      have HX : Hid (Pl (wr.setCell ⟨w1.heap.size, 19 + i * 6 + t, none⟩ (.bool true)).drew w1.heap.size n mk (ringE n (i + 1)) ∧ Below w.heap.size w (wr.setCell ⟨w1.heap.size, 19 + i * 6 + t, none⟩ (.bool true)).drew) := by
        refine ⟨((HP.out.edge i t (by omega) (by omega) true).congr (fun _ _ _ _ => rfl) (fun x y _ _ => ?_)).drew, (HB.out.setCell (by simp; omega) _).drew⟩
        rw [HT.out]
        exact ringE_succ n i x y
      have HQ' : Hid ((qb || mk i 1) = (decide (m < 2) || anyU (fun j => mk j 1) (i + 1))) := by
        show _ = _
        rw [anyU_succ, ← Bool.or_assoc, ← HQ.out]
      have HR' : Hid ((rb || mk i 2) = (decide (m < 1) || anyU (fun j => mk j 2) (i + 1))) := by
        show _ = _
        rw [anyU_succ, ← Bool.or_assoc, ← HR.out]
      clear HQ HR
      obtain ⟨g1, hg1⟩ : ∃ g1, g1 = mk i 1 := ⟨_, rfl⟩
      obtain ⟨g2, hg2⟩ : ∃ g2, g2 = mk i 2 := ⟨_, rfl⟩
      rw [← hg1] at cm1 HQ'
      rw [← hg2] at cm2 HR'
      clear hg1 hg2
      cases qb with
      | true =>
        cases rb with
        | true =>
          go_wp2_with fail
          go_region
          all_goals
            go_wp2_with fail
            go_roundw
            case rel => exact ⟨i + 1, _, _, by omega, rfl, rfl, by go_num, HQ', HR', HX.out.1, HX.out.2⟩
            case measure => simp [intOf]; omega
        | false =>
          go_wp2_with fail
          go_region
          all_goals
            go_wp2_with fail
            go_roundw
            case rel => exact ⟨i + 1, _, _, by omega, rfl, rfl, by go_num, HQ', HR', HX.out.1, HX.out.2⟩
            case measure => simp [intOf]; omega
      | false =>
        cases rb with
        | true =>
          go_wp2_with fail
          go_region
          all_goals
            go_wp2_with fail
            go_roundw
            case rel => exact ⟨i + 1, _, _, by omega, rfl, rfl, by go_num, HQ', HR', HX.out.1, HX.out.2⟩
            case measure => simp [intOf]; omega
        | false =>
          go_wp2_with fail
          go_region
          all_goals
            go_wp2_with fail
            go_roundw
            case rel => exact ⟨i + 1, _, _, by omega, rfl, rfl, by go_num, HQ', HR', HX.out.1, HX.out.2⟩
            case measure => simp [intOf]; omega
    · obtain rfl : i = n := by omega
      cases qb with
      | true =>
        go_wp2_with fail
        generalize hF : (⟨#[113, 114]⟩ : ByteArray).extract (2 - m) 2 = F
        obtain ⟨hfo, hlv⟩ := lives_iff (mk := mk) (n := i) hm hF.symm
        have HFS : Hid (F.size ≤ 9223372036854775807) := by
          have : F.size ≤ 2 := by
            have h := hfo
            unfold fairOk at h
            rw [Bool.and_eq_true, decide_eq_true_eq] at h
            exact h.1
          show F.size ≤ _
          omega
        have HFO : Hid (fairOk F = true) := hfo
        have HLV : Hid (rb = true ↔ ∀ c ∈ fsOf F, ∃ d, d < i ∧ ∃ k, k < 3 ∧ mk d k = true ∧ c = 112 + k) := by
          show _ ↔ _
          rw [← hlv, ← HQ.out, ← HR.out]
          exact Iff.of_eq (congrArg (· = true) (by rw [Bool.true_and]))
        clear hfo hlv hF HQ HR
        obtain ⟨E, hE⟩ : ∃ E, E = ringE i i := ⟨_, rfl⟩
        have HRG : Hid (∀ a b, a < i → b < i → E a b = decide (b = (a + 1) % i)) := by
          intro a b ha _
          rw [hE]
          unfold ringE
          rw [decide_eq_true ha, Bool.true_and]
        rw [← hE] at HP
        clear hE
        obtain ⟨U, hU⟩ : ∃ U : Nat → Bool, U = fun j => goes i mk false j && rb := ⟨_, rfl⟩
        obtain ⟨V, hV⟩ : ∃ V : Nat → Bool, V = fun j => goes i mk true j && rb := ⟨_, rfl⟩
        obtain ⟨X, hX⟩ : ∃ X : Nat → Bool, X = fun j => mk ((j + 1) % i) 0 && rb := ⟨_, rfl⟩
        obtain ⟨A, hA⟩ : ∃ A : Nat → Bool, A = fun j => goes i mk false j || !rb := ⟨_, rfl⟩
        obtain ⟨D, hD⟩ : ∃ D : Nat → Bool, D = fun j => goes i mk true j || !rb := ⟨_, rfl⟩
        have HU : Hid (∀ j, U j = (goes i mk false j && rb)) := fun j => by rw [hU]
        have HV : Hid (∀ j, V j = (goes i mk true j && rb)) := fun j => by rw [hV]
        have HX : Hid (∀ j, X j = (mk ((j + 1) % i) 0 && rb)) := fun j => by rw [hX]
        have HA : Hid (∀ j, A j = (goes i mk false j || !rb)) := fun j => by rw [hA]
        have HD : Hid (∀ j, D j = (goes i mk true j || !rb)) := fun j => by rw [hD]
        clear hU hV hX hA hD
        have hb5 := (below3 wr (.cells (six fun _ => false) 27) (.cells (six fun _ => false) 27) (.cells (six fun _ => false) 27)).trans ((below1 _ (.cells (six fun _ => false) 27)).mono (by simp; omega))
        have HI0 : Hid (RI w (((((wr.alloc (.cells (six fun _ => false) 27)).alloc (.cells (six fun _ => false) 27)).alloc (.cells (six fun _ => false) 27)).alloc (.cells (six fun _ => false) 27)).alloc (.cells (six fun _ => false) 27)) w1.heap.size i wr.heap.size mk E U V X A D 0) := by
          have hb6 : Below wr.heap.size wr (((((wr.alloc (.cells (six fun _ => false) 27)).alloc (.cells (six fun _ => false) 27)).alloc (.cells (six fun _ => false) 27)).alloc (.cells (six fun _ => false) 27)).alloc (.cells (six fun _ => false) 27)) := hb5.trans ((below1 _ _).mono (by simp; omega))
          rw [show (fun _ => false : Nat → Bool) = upto 0 U from by funext j; simp [upto]]
          refine ⟨?_, ?_, ?_, ?_, ?_, ?_, ?_⟩
          · exact Below.to HB.out hb6
          · exact HP.out.below hb6 HP.out.lt
          · exact ((((arr_new wr _ 27).alloc _).alloc _).alloc _).alloc _
          · rw [show upto 0 V = upto 0 U from by funext j; simp [upto]]; exact (((arr_at _ _ 27 _ (by simp)).alloc _).alloc _).alloc _
          · rw [show upto 0 X = upto 0 U from by funext j; simp [upto]]; exact ((arr_at _ _ 27 _ (by simp)).alloc _).alloc _
          · rw [show upto 0 A = upto 0 U from by funext j; simp [upto]]; exact (arr_at _ _ 27 _ (by simp)).alloc _
          · rw [show upto 0 D = upto 0 U from by funext j; simp [upto]]; exact arr_at _ _ 27 _ (by simp)
        clear hb5
        have hpb0 := HP.out.lt
        have hwb0 : w.heap.size ≤ wr.heap.size := HB.out.size
        obtain ⟨wb, hwbe⟩ : ∃ wb, wb = wr.heap.size := ⟨_, rfl⟩
        rw [← hwbe] at HI0 hpb0 hwb0
        rw [← hwbe]
        have hpb : w1.heap.size < wb := hpb0
        have hwb : w.heap.size ≤ wb := hwb0
        clear hpb0 hwb0 cn HP HB hi hlt
        have hlen := planCells_len i mk E
        obtain ⟨P, hPP⟩ : ∃ P, P = planCells i mk E := ⟨_, rfl⟩
        rw [← hPP] at hlen
        have HPP : Hid (P = planCells i mk E) := hPP
        clear hPP
        go_loopw [18] (fun q wr => ∃ c : Nat, c ≤ i ∧ q = .int .i64 c ∧ Hid (RI w wr w1.heap.size i wb mk E U V X A D c)) (fun q _ => i - (intOf q).toNat)
        case atStart => exact ⟨0, by omega, rfl, HI0⟩
        case round =>
          clear HI0 hwbe
          obtain ⟨c, hc, rfl, HI⟩ := hrel
          have cn := HI.out.pl.cn
          have HR0 : Hid (wr.rangeAt w1.heap.size 0 P) := by show World.rangeAt _ _ _ _; rw [HPP.out]; exact HI.out.pl.range
          by_cases hlt : c < i
          · obtain ⟨t, ht⟩ : ∃ t, t = (c + 1) % i := ⟨_, rfl⟩
            have htn : t < i := by rw [ht]; exact Nat.mod_lt _ hn0
            have e1 : ((c : Int) + 1) % (i : Int) = (t : Int) := by rw [ht]; simp
            have e2 : ((c : Int) + 1).tmod (i : Int) = (t : Int) := by rw [Int.tmod_eq_emod_of_nonneg (by omega)]; exact e1
            have wk0 : IntKind.i64.wrap ((c : Int) + 1) = (c : Int) + 1 := wrap_small _ (by clear e1 e2; omega) (by clear e1 e2; omega)
            have HW0 := fun W => walk_is i c false mk E W hn0 hn6 hlt
            have HW1 := fun W => walk_is i c true mk E W hn0 hn6 hlt
            rw [← HPP.out] at HW0 HW1
            obtain ⟨u, hu⟩ : ∃ u, u = goes i mk false c := ⟨_, rfl⟩
            obtain ⟨v, hv⟩ : ∃ v, v = goes i mk true c := ⟨_, rfl⟩
            obtain ⟨x, hx⟩ : ∃ x, x = mk t 0 := ⟨_, rfl⟩
            have HUU : Hid (U c = (u && rb)) := by rw [hu]; exact HU.out c
            have HVV : Hid (V c = (v && rb)) := by rw [hv]; exact HV.out c
            have HXX : Hid (X c = (x && rb)) := by rw [hx, ht]; exact HX.out c
            have HAA : Hid (A c = (u || !rb)) := by rw [hu]; exact HA.out c
            have HDD : Hid (D c = (v || !rb)) := by rw [hv]; exact HD.out c
            have HM0 : Hid (∀ W, Pl W w1.heap.size i mk E → W.cell? ⟨w1.heap.size, 1 + t * 3, none⟩ = some (.bool x)) := fun W h => by
              rw [hx]; exact h.cm t 0 (by omega) (by omega)
            rw [← hu] at HW0
            rw [← hv] at HW1
            have c0 : (0 : Int) ≤ (c : Int) := by omega
            have c6 : (c : Int) < 6 := by omega
            have hc6 : c < 6 := by omega
            have t0 : (0 : Int) ≤ (t : Int) := by omega
            have t1 : (t : Int) < 6 := by omega
            have n00 : ¬ i = 0 := by omega
            have n01 : ¬ (i : Int) = 0 := by omega
            have q01 : wb ≠ wb + 1 := by omega
            have q02 : wb ≠ wb + 1 + 1 := by omega
            have q03 : wb ≠ wb + 1 + 1 + 1 := by omega
            have q04 : wb ≠ wb + 1 + 1 + 1 + 1 := by omega
            have q10 : wb + 1 ≠ wb := by omega
            have q12 : wb + 1 ≠ wb + 1 + 1 := by omega
            have q13 : wb + 1 ≠ wb + 1 + 1 + 1 := by omega
            have q14 : wb + 1 ≠ wb + 1 + 1 + 1 + 1 := by omega
            have q20 : wb + 1 + 1 ≠ wb := by omega
            have q21 : wb + 1 + 1 ≠ wb + 1 := by omega
            have q23 : wb + 1 + 1 ≠ wb + 1 + 1 + 1 := by omega
            have q24 : wb + 1 + 1 ≠ wb + 1 + 1 + 1 + 1 := by omega
            have q30 : wb + 1 + 1 + 1 ≠ wb := by omega
            have q31 : wb + 1 + 1 + 1 ≠ wb + 1 := by omega
            have q32 : wb + 1 + 1 + 1 ≠ wb + 1 + 1 := by omega
            have q34 : wb + 1 + 1 + 1 ≠ wb + 1 + 1 + 1 + 1 := by omega
            have q40 : wb + 1 + 1 + 1 + 1 ≠ wb := by omega
            have q41 : wb + 1 + 1 + 1 + 1 ≠ wb + 1 := by omega
            have q42 : wb + 1 + 1 + 1 + 1 ≠ wb + 1 + 1 := by omega
            have q43 : wb + 1 + 1 + 1 + 1 ≠ wb + 1 + 1 + 1 := by omega
            clear ht e1 hu hv hx HU HV HX HA HD
            cases u with
            | true =>
              cases v with
              | true =>
                cases x with
                | true =>
                  go_wp2_with (first
                    | (refine loadT 30 55 Try.size30 Try.row30 (by rfl) _ (by rfl) w1.heap.size (by rfl) P HR5.out hlen ?_)
                    | (refine loadT 30 55 Try.size30 Try.row30 (by rfl) _ (by rfl) w1.heap.size (by rfl) P HR0.out hlen ?_)
                    | (go_at_call_of 15 (Value.bool false); refine (HW0 _).mono ?_; rintro e w5 ⟨rfl, hb5⟩
                       have HI5 : Hid (RI w w5 w1.heap.size i wb mk E U V X A D c) := HI.out.below hb5
                       have HR5 : Hid (w5.rangeAt w1.heap.size 0 P) := by show World.rangeAt _ _ _ _; rw [HPP.out]; exact HI5.out.pl.range
                       clear hb5 HI))
                  refine (HW1 _).mono ?_
                  rintro e w6 ⟨rfl, hb6⟩
                  have HI6 : Hid (RI w w6 w1.heap.size i wb mk E U V X A D c) := HI5.out.below hb6
                  have cn6 := HI6.out.pl.cn
                  have cm6 := HM0.out w6 HI6.out.pl
                  have f0 := HI6.out.a0.c c hc6
                  have f1 := HI6.out.a1.c c hc6
                  have f2 := HI6.out.a2.c c hc6
                  have f3 := HI6.out.a3.c c hc6
                  have f4 := HI6.out.a4.c c hc6
                  have g0 := HI6.out.a0.z c hc6
                  have g1 := HI6.out.a1.z c hc6
                  have g2 := HI6.out.a2.z c hc6
                  have g3 := HI6.out.a3.z c hc6
                  have g4 := HI6.out.a4.z c hc6
                  have HN : Hid (∀ b0 b1 b2 b3 b4 : Bool, b0 = U c → b1 = V c → b2 = X c → b3 = A c → b4 = D c → RI w (((((w6.setCell ⟨wb, c, none⟩ (.bool b0)).setCell ⟨wb + 1, c, none⟩ (.bool b1)).setCell ⟨wb + 1 + 1, c, none⟩ (.bool b2)).setCell ⟨wb + 1 + 1 + 1, c, none⟩ (.bool b3)).setCell ⟨wb + 1 + 1 + 1 + 1, c, none⟩ (.bool b4)) w1.heap.size i wb mk E U V X A D (c + 1)) := HI6.out.more hc6 hpb hwb
                  clear hb6 HI5 HR5 HI6
                  clear q01 q02 q03 q04 q10 q12 q13 q14 q20 q21 q23 q24 q30 q31 q32 q34 q40 q41 q42 q43
                  go_wp2_with fail
                  go_roundw
                  case rel => exact ⟨c + 1, by omega, by go_num, HN.out _ _ _ _ _ (by rw [HUU.out]; rfl) (by rw [HVV.out]; rfl) (by rw [HXX.out]; rfl) (by rw [HAA.out]; rfl) (by rw [HDD.out]; rfl)⟩
                  case measure => simp [intOf]; omega
                | false =>
                  go_wp2_with (first
                    | (refine loadT 30 55 Try.size30 Try.row30 (by rfl) _ (by rfl) w1.heap.size (by rfl) P HR5.out hlen ?_)
                    | (refine loadT 30 55 Try.size30 Try.row30 (by rfl) _ (by rfl) w1.heap.size (by rfl) P HR0.out hlen ?_)
                    | (go_at_call_of 15 (Value.bool false); refine (HW0 _).mono ?_; rintro e w5 ⟨rfl, hb5⟩
                       have HI5 : Hid (RI w w5 w1.heap.size i wb mk E U V X A D c) := HI.out.below hb5
                       have HR5 : Hid (w5.rangeAt w1.heap.size 0 P) := by show World.rangeAt _ _ _ _; rw [HPP.out]; exact HI5.out.pl.range
                       clear hb5 HI))
                  refine (HW1 _).mono ?_
                  rintro e w6 ⟨rfl, hb6⟩
                  have HI6 : Hid (RI w w6 w1.heap.size i wb mk E U V X A D c) := HI5.out.below hb6
                  have cn6 := HI6.out.pl.cn
                  have cm6 := HM0.out w6 HI6.out.pl
                  have f0 := HI6.out.a0.c c hc6
                  have f1 := HI6.out.a1.c c hc6
                  have f2 := HI6.out.a2.c c hc6
                  have f3 := HI6.out.a3.c c hc6
                  have f4 := HI6.out.a4.c c hc6
                  have g0 := HI6.out.a0.z c hc6
                  have g1 := HI6.out.a1.z c hc6
                  have g2 := HI6.out.a2.z c hc6
                  have g3 := HI6.out.a3.z c hc6
                  have g4 := HI6.out.a4.z c hc6
                  have HN : Hid (∀ b0 b1 b2 b3 b4 : Bool, b0 = U c → b1 = V c → b2 = X c → b3 = A c → b4 = D c → RI w (((((w6.setCell ⟨wb, c, none⟩ (.bool b0)).setCell ⟨wb + 1, c, none⟩ (.bool b1)).setCell ⟨wb + 1 + 1, c, none⟩ (.bool b2)).setCell ⟨wb + 1 + 1 + 1, c, none⟩ (.bool b3)).setCell ⟨wb + 1 + 1 + 1 + 1, c, none⟩ (.bool b4)) w1.heap.size i wb mk E U V X A D (c + 1)) := HI6.out.more hc6 hpb hwb
                  clear hb6 HI5 HR5 HI6
                  clear q01 q02 q03 q04 q10 q12 q13 q14 q20 q21 q23 q24 q30 q31 q32 q34 q40 q41 q42 q43
                  go_wp2_with fail
                  go_roundw
                  case rel => exact ⟨c + 1, by omega, by go_num, HN.out _ _ _ _ _ (by rw [HUU.out]; rfl) (by rw [HVV.out]; rfl) (by rw [HXX.out]; rfl) (by rw [HAA.out]; rfl) (by rw [HDD.out]; rfl)⟩
                  case measure => simp [intOf]; omega
              | false =>
                cases x with
                | true =>
                  go_wp2_with (first
                    | (refine loadT 30 55 Try.size30 Try.row30 (by rfl) _ (by rfl) w1.heap.size (by rfl) P HR5.out hlen ?_)
                    | (refine loadT 30 55 Try.size30 Try.row30 (by rfl) _ (by rfl) w1.heap.size (by rfl) P HR0.out hlen ?_)
                    | (go_at_call_of 15 (Value.bool false); refine (HW0 _).mono ?_; rintro e w5 ⟨rfl, hb5⟩
                       have HI5 : Hid (RI w w5 w1.heap.size i wb mk E U V X A D c) := HI.out.below hb5
                       have HR5 : Hid (w5.rangeAt w1.heap.size 0 P) := by show World.rangeAt _ _ _ _; rw [HPP.out]; exact HI5.out.pl.range
                       clear hb5 HI))
                  refine (HW1 _).mono ?_
                  rintro e w6 ⟨rfl, hb6⟩
                  have HI6 : Hid (RI w w6 w1.heap.size i wb mk E U V X A D c) := HI5.out.below hb6
                  have cn6 := HI6.out.pl.cn
                  have cm6 := HM0.out w6 HI6.out.pl
                  have f0 := HI6.out.a0.c c hc6
                  have f1 := HI6.out.a1.c c hc6
                  have f2 := HI6.out.a2.c c hc6
                  have f3 := HI6.out.a3.c c hc6
                  have f4 := HI6.out.a4.c c hc6
                  have g0 := HI6.out.a0.z c hc6
                  have g1 := HI6.out.a1.z c hc6
                  have g2 := HI6.out.a2.z c hc6
                  have g3 := HI6.out.a3.z c hc6
                  have g4 := HI6.out.a4.z c hc6
                  have HN : Hid (∀ b0 b1 b2 b3 b4 : Bool, b0 = U c → b1 = V c → b2 = X c → b3 = A c → b4 = D c → RI w (((((w6.setCell ⟨wb, c, none⟩ (.bool b0)).setCell ⟨wb + 1, c, none⟩ (.bool b1)).setCell ⟨wb + 1 + 1, c, none⟩ (.bool b2)).setCell ⟨wb + 1 + 1 + 1, c, none⟩ (.bool b3)).setCell ⟨wb + 1 + 1 + 1 + 1, c, none⟩ (.bool b4)) w1.heap.size i wb mk E U V X A D (c + 1)) := HI6.out.more hc6 hpb hwb
                  clear hb6 HI5 HR5 HI6
                  clear q01 q02 q03 q04 q10 q12 q13 q14 q20 q21 q23 q24 q30 q31 q32 q34 q40 q41 q42 q43
                  go_wp2_with fail
                  go_roundw
                  case rel => exact ⟨c + 1, by omega, by go_num, HN.out _ _ _ _ _ (by rw [HUU.out]; rfl) (by rw [HVV.out]; rfl) (by rw [HXX.out]; rfl) (by rw [HAA.out]; rfl) (by rw [HDD.out]; rfl)⟩
                  case measure => simp [intOf]; omega
                | false =>
                  go_wp2_with (first
                    | (refine loadT 30 55 Try.size30 Try.row30 (by rfl) _ (by rfl) w1.heap.size (by rfl) P HR5.out hlen ?_)
                    | (refine loadT 30 55 Try.size30 Try.row30 (by rfl) _ (by rfl) w1.heap.size (by rfl) P HR0.out hlen ?_)
                    | (go_at_call_of 15 (Value.bool false); refine (HW0 _).mono ?_; rintro e w5 ⟨rfl, hb5⟩
                       have HI5 : Hid (RI w w5 w1.heap.size i wb mk E U V X A D c) := HI.out.below hb5
                       have HR5 : Hid (w5.rangeAt w1.heap.size 0 P) := by show World.rangeAt _ _ _ _; rw [HPP.out]; exact HI5.out.pl.range
                       clear hb5 HI))
                  refine (HW1 _).mono ?_
                  rintro e w6 ⟨rfl, hb6⟩
                  have HI6 : Hid (RI w w6 w1.heap.size i wb mk E U V X A D c) := HI5.out.below hb6
                  have cn6 := HI6.out.pl.cn
                  have cm6 := HM0.out w6 HI6.out.pl
                  have f0 := HI6.out.a0.c c hc6
                  have f1 := HI6.out.a1.c c hc6
                  have f2 := HI6.out.a2.c c hc6
                  have f3 := HI6.out.a3.c c hc6
                  have f4 := HI6.out.a4.c c hc6
                  have g0 := HI6.out.a0.z c hc6
                  have g1 := HI6.out.a1.z c hc6
                  have g2 := HI6.out.a2.z c hc6
                  have g3 := HI6.out.a3.z c hc6
                  have g4 := HI6.out.a4.z c hc6
                  have HN : Hid (∀ b0 b1 b2 b3 b4 : Bool, b0 = U c → b1 = V c → b2 = X c → b3 = A c → b4 = D c → RI w (((((w6.setCell ⟨wb, c, none⟩ (.bool b0)).setCell ⟨wb + 1, c, none⟩ (.bool b1)).setCell ⟨wb + 1 + 1, c, none⟩ (.bool b2)).setCell ⟨wb + 1 + 1 + 1, c, none⟩ (.bool b3)).setCell ⟨wb + 1 + 1 + 1 + 1, c, none⟩ (.bool b4)) w1.heap.size i wb mk E U V X A D (c + 1)) := HI6.out.more hc6 hpb hwb
                  clear hb6 HI5 HR5 HI6
                  clear q01 q02 q03 q04 q10 q12 q13 q14 q20 q21 q23 q24 q30 q31 q32 q34 q40 q41 q42 q43
                  go_wp2_with fail
                  go_roundw
                  case rel => exact ⟨c + 1, by omega, by go_num, HN.out _ _ _ _ _ (by rw [HUU.out]; rfl) (by rw [HVV.out]; rfl) (by rw [HXX.out]; rfl) (by rw [HAA.out]; rfl) (by rw [HDD.out]; rfl)⟩
                  case measure => simp [intOf]; omega
            | false =>
              cases v with
              | true =>
                cases x with
                | true =>
                  go_wp2_with (first
                    | (refine loadT 30 55 Try.size30 Try.row30 (by rfl) _ (by rfl) w1.heap.size (by rfl) P HR5.out hlen ?_)
                    | (refine loadT 30 55 Try.size30 Try.row30 (by rfl) _ (by rfl) w1.heap.size (by rfl) P HR0.out hlen ?_)
                    | (go_at_call_of 15 (Value.bool false); refine (HW0 _).mono ?_; rintro e w5 ⟨rfl, hb5⟩
                       have HI5 : Hid (RI w w5 w1.heap.size i wb mk E U V X A D c) := HI.out.below hb5
                       have HR5 : Hid (w5.rangeAt w1.heap.size 0 P) := by show World.rangeAt _ _ _ _; rw [HPP.out]; exact HI5.out.pl.range
                       clear hb5 HI))
                  refine (HW1 _).mono ?_
                  rintro e w6 ⟨rfl, hb6⟩
                  have HI6 : Hid (RI w w6 w1.heap.size i wb mk E U V X A D c) := HI5.out.below hb6
                  have cn6 := HI6.out.pl.cn
                  have cm6 := HM0.out w6 HI6.out.pl
                  have f0 := HI6.out.a0.c c hc6
                  have f1 := HI6.out.a1.c c hc6
                  have f2 := HI6.out.a2.c c hc6
                  have f3 := HI6.out.a3.c c hc6
                  have f4 := HI6.out.a4.c c hc6
                  have g0 := HI6.out.a0.z c hc6
                  have g1 := HI6.out.a1.z c hc6
                  have g2 := HI6.out.a2.z c hc6
                  have g3 := HI6.out.a3.z c hc6
                  have g4 := HI6.out.a4.z c hc6
                  have HN : Hid (∀ b0 b1 b2 b3 b4 : Bool, b0 = U c → b1 = V c → b2 = X c → b3 = A c → b4 = D c → RI w (((((w6.setCell ⟨wb, c, none⟩ (.bool b0)).setCell ⟨wb + 1, c, none⟩ (.bool b1)).setCell ⟨wb + 1 + 1, c, none⟩ (.bool b2)).setCell ⟨wb + 1 + 1 + 1, c, none⟩ (.bool b3)).setCell ⟨wb + 1 + 1 + 1 + 1, c, none⟩ (.bool b4)) w1.heap.size i wb mk E U V X A D (c + 1)) := HI6.out.more hc6 hpb hwb
                  clear hb6 HI5 HR5 HI6
                  clear q01 q02 q03 q04 q10 q12 q13 q14 q20 q21 q23 q24 q30 q31 q32 q34 q40 q41 q42 q43
                  go_wp2_with fail
                  go_roundw
                  case rel => exact ⟨c + 1, by omega, by go_num, HN.out _ _ _ _ _ (by rw [HUU.out]; rfl) (by rw [HVV.out]; rfl) (by rw [HXX.out]; rfl) (by rw [HAA.out]; rfl) (by rw [HDD.out]; rfl)⟩
                  case measure => simp [intOf]; omega
                | false =>
                  go_wp2_with (first
                    | (refine loadT 30 55 Try.size30 Try.row30 (by rfl) _ (by rfl) w1.heap.size (by rfl) P HR5.out hlen ?_)
                    | (refine loadT 30 55 Try.size30 Try.row30 (by rfl) _ (by rfl) w1.heap.size (by rfl) P HR0.out hlen ?_)
                    | (go_at_call_of 15 (Value.bool false); refine (HW0 _).mono ?_; rintro e w5 ⟨rfl, hb5⟩
                       have HI5 : Hid (RI w w5 w1.heap.size i wb mk E U V X A D c) := HI.out.below hb5
                       have HR5 : Hid (w5.rangeAt w1.heap.size 0 P) := by show World.rangeAt _ _ _ _; rw [HPP.out]; exact HI5.out.pl.range
                       clear hb5 HI))
                  refine (HW1 _).mono ?_
                  rintro e w6 ⟨rfl, hb6⟩
                  have HI6 : Hid (RI w w6 w1.heap.size i wb mk E U V X A D c) := HI5.out.below hb6
                  have cn6 := HI6.out.pl.cn
                  have cm6 := HM0.out w6 HI6.out.pl
                  have f0 := HI6.out.a0.c c hc6
                  have f1 := HI6.out.a1.c c hc6
                  have f2 := HI6.out.a2.c c hc6
                  have f3 := HI6.out.a3.c c hc6
                  have f4 := HI6.out.a4.c c hc6
                  have g0 := HI6.out.a0.z c hc6
                  have g1 := HI6.out.a1.z c hc6
                  have g2 := HI6.out.a2.z c hc6
                  have g3 := HI6.out.a3.z c hc6
                  have g4 := HI6.out.a4.z c hc6
                  have HN : Hid (∀ b0 b1 b2 b3 b4 : Bool, b0 = U c → b1 = V c → b2 = X c → b3 = A c → b4 = D c → RI w (((((w6.setCell ⟨wb, c, none⟩ (.bool b0)).setCell ⟨wb + 1, c, none⟩ (.bool b1)).setCell ⟨wb + 1 + 1, c, none⟩ (.bool b2)).setCell ⟨wb + 1 + 1 + 1, c, none⟩ (.bool b3)).setCell ⟨wb + 1 + 1 + 1 + 1, c, none⟩ (.bool b4)) w1.heap.size i wb mk E U V X A D (c + 1)) := HI6.out.more hc6 hpb hwb
                  clear hb6 HI5 HR5 HI6
                  clear q01 q02 q03 q04 q10 q12 q13 q14 q20 q21 q23 q24 q30 q31 q32 q34 q40 q41 q42 q43
                  go_wp2_with fail
                  go_roundw
                  case rel => exact ⟨c + 1, by omega, by go_num, HN.out _ _ _ _ _ (by rw [HUU.out]; rfl) (by rw [HVV.out]; rfl) (by rw [HXX.out]; rfl) (by rw [HAA.out]; rfl) (by rw [HDD.out]; rfl)⟩
                  case measure => simp [intOf]; omega
              | false =>
                cases x with
                | true =>
                  go_wp2_with (first
                    | (refine loadT 30 55 Try.size30 Try.row30 (by rfl) _ (by rfl) w1.heap.size (by rfl) P HR5.out hlen ?_)
                    | (refine loadT 30 55 Try.size30 Try.row30 (by rfl) _ (by rfl) w1.heap.size (by rfl) P HR0.out hlen ?_)
                    | (go_at_call_of 15 (Value.bool false); refine (HW0 _).mono ?_; rintro e w5 ⟨rfl, hb5⟩
                       have HI5 : Hid (RI w w5 w1.heap.size i wb mk E U V X A D c) := HI.out.below hb5
                       have HR5 : Hid (w5.rangeAt w1.heap.size 0 P) := by show World.rangeAt _ _ _ _; rw [HPP.out]; exact HI5.out.pl.range
                       clear hb5 HI))
                  refine (HW1 _).mono ?_
                  rintro e w6 ⟨rfl, hb6⟩
                  have HI6 : Hid (RI w w6 w1.heap.size i wb mk E U V X A D c) := HI5.out.below hb6
                  have cn6 := HI6.out.pl.cn
                  have cm6 := HM0.out w6 HI6.out.pl
                  have f0 := HI6.out.a0.c c hc6
                  have f1 := HI6.out.a1.c c hc6
                  have f2 := HI6.out.a2.c c hc6
                  have f3 := HI6.out.a3.c c hc6
                  have f4 := HI6.out.a4.c c hc6
                  have g0 := HI6.out.a0.z c hc6
                  have g1 := HI6.out.a1.z c hc6
                  have g2 := HI6.out.a2.z c hc6
                  have g3 := HI6.out.a3.z c hc6
                  have g4 := HI6.out.a4.z c hc6
                  have HN : Hid (∀ b0 b1 b2 b3 b4 : Bool, b0 = U c → b1 = V c → b2 = X c → b3 = A c → b4 = D c → RI w (((((w6.setCell ⟨wb, c, none⟩ (.bool b0)).setCell ⟨wb + 1, c, none⟩ (.bool b1)).setCell ⟨wb + 1 + 1, c, none⟩ (.bool b2)).setCell ⟨wb + 1 + 1 + 1, c, none⟩ (.bool b3)).setCell ⟨wb + 1 + 1 + 1 + 1, c, none⟩ (.bool b4)) w1.heap.size i wb mk E U V X A D (c + 1)) := HI6.out.more hc6 hpb hwb
                  clear hb6 HI5 HR5 HI6
                  clear q01 q02 q03 q04 q10 q12 q13 q14 q20 q21 q23 q24 q30 q31 q32 q34 q40 q41 q42 q43
                  go_wp2_with fail
                  go_roundw
                  case rel => exact ⟨c + 1, by omega, by go_num, HN.out _ _ _ _ _ (by rw [HUU.out]; rfl) (by rw [HVV.out]; rfl) (by rw [HXX.out]; rfl) (by rw [HAA.out]; rfl) (by rw [HDD.out]; rfl)⟩
                  case measure => simp [intOf]; omega
                | false =>
                  go_wp2_with (first
                    | (refine loadT 30 55 Try.size30 Try.row30 (by rfl) _ (by rfl) w1.heap.size (by rfl) P HR5.out hlen ?_)
                    | (refine loadT 30 55 Try.size30 Try.row30 (by rfl) _ (by rfl) w1.heap.size (by rfl) P HR0.out hlen ?_)
                    | (go_at_call_of 15 (Value.bool false); refine (HW0 _).mono ?_; rintro e w5 ⟨rfl, hb5⟩
                       have HI5 : Hid (RI w w5 w1.heap.size i wb mk E U V X A D c) := HI.out.below hb5
                       have HR5 : Hid (w5.rangeAt w1.heap.size 0 P) := by show World.rangeAt _ _ _ _; rw [HPP.out]; exact HI5.out.pl.range
                       clear hb5 HI))
                  refine (HW1 _).mono ?_
                  rintro e w6 ⟨rfl, hb6⟩
                  have HI6 : Hid (RI w w6 w1.heap.size i wb mk E U V X A D c) := HI5.out.below hb6
                  have cn6 := HI6.out.pl.cn
                  have cm6 := HM0.out w6 HI6.out.pl
                  have f0 := HI6.out.a0.c c hc6
                  have f1 := HI6.out.a1.c c hc6
                  have f2 := HI6.out.a2.c c hc6
                  have f3 := HI6.out.a3.c c hc6
                  have f4 := HI6.out.a4.c c hc6
                  have g0 := HI6.out.a0.z c hc6
                  have g1 := HI6.out.a1.z c hc6
                  have g2 := HI6.out.a2.z c hc6
                  have g3 := HI6.out.a3.z c hc6
                  have g4 := HI6.out.a4.z c hc6
                  have HN : Hid (∀ b0 b1 b2 b3 b4 : Bool, b0 = U c → b1 = V c → b2 = X c → b3 = A c → b4 = D c → RI w (((((w6.setCell ⟨wb, c, none⟩ (.bool b0)).setCell ⟨wb + 1, c, none⟩ (.bool b1)).setCell ⟨wb + 1 + 1, c, none⟩ (.bool b2)).setCell ⟨wb + 1 + 1 + 1, c, none⟩ (.bool b3)).setCell ⟨wb + 1 + 1 + 1 + 1, c, none⟩ (.bool b4)) w1.heap.size i wb mk E U V X A D (c + 1)) := HI6.out.more hc6 hpb hwb
                  clear hb6 HI5 HR5 HI6
                  clear q01 q02 q03 q04 q10 q12 q13 q14 q20 q21 q23 q24 q30 q31 q32 q34 q40 q41 q42 q43
                  go_wp2_with fail
                  go_roundw
                  case rel => exact ⟨c + 1, by omega, by go_num, HN.out _ _ _ _ _ (by rw [HUU.out]; rfl) (by rw [HVV.out]; rfl) (by rw [HXX.out]; rfl) (by rw [HAA.out]; rfl) (by rw [HDD.out]; rfl)⟩
                  case measure => simp [intOf]; omega

          · obtain rfl : c = i := by omega
            obtain ⟨TX, hTX⟩ : ∃ TX, TX = bs (rowsT mk E c c 0) := ⟨_, rfl⟩
            have HTX := fun W => text_is c mk E W hn6
            obtain ⟨so1, so2, so3, so4, so5⟩ := ring_sols (s := TX) (f := F) hn0 hn6 (by rw [hTX, bs_list]) HRG.out HFO.out rb HLV.out (U := upto c U) (V := upto c V) (X := upto c X) (A := upto c A) (B := upto c D) (fun j hj => (upto_lt hj).trans (HU.out j)) (fun j hj => (upto_lt hj).trans (HV.out j)) (fun j hj => (upto_lt hj).trans (HX.out j)) (fun j hj => (upto_lt hj).trans (HA.out j)) (fun j hj => (upto_lt hj).trans (HD.out j))
            rw [← hTX, ← HPP.out] at HTX
            clear hTX
            have t1 := fun W => tells_yes _ _ _ _ W HFS.out so1
            have t2 := fun W => tells_yes _ _ _ _ W HFS.out so2
            have t3 := fun W => tells_yes _ _ _ _ W HFS.out so3
            have t4 := fun W => tells_yes _ _ _ _ W HFS.out so4
            have t5 := fun W => tells_yes _ _ _ _ W HFS.out so5
            clear so1 so2 so3 so4 so5
            obtain ⟨CA, hCA⟩ : ∃ CA, CA = upto c U := ⟨_, rfl⟩
            have R0 : Hid (Arr wr (wb) 6 CA) := by rw [hCA]; exact HI.out.a0
            rw [← hCA] at t1
            have o1 := fun W => ones_is CA c hn6 W
            obtain ⟨Y0, hY0⟩ : ∃ Y0, Y0 = bs (bitsU CA c) := ⟨_, rfl⟩
            rw [← hY0] at o1 t1
            clear hCA hY0
            obtain ⟨CB, hCB⟩ : ∃ CB, CB = upto c V := ⟨_, rfl⟩
            have R1 : Hid (Arr wr (wb + 1) 6 CB) := by rw [hCB]; exact HI.out.a1
            rw [← hCB] at t2
            have o2 := fun W => ones_is CB c hn6 W
            obtain ⟨Y1, hY1⟩ : ∃ Y1, Y1 = bs (bitsU CB c) := ⟨_, rfl⟩
            rw [← hY1] at o2 t2
            clear hCB hY1
            obtain ⟨CC, hCC⟩ : ∃ CC, CC = upto c X := ⟨_, rfl⟩
            have R2 : Hid (Arr wr (wb + 1 + 1) 6 CC) := by rw [hCC]; exact HI.out.a2
            rw [← hCC] at t3
            have o3 := fun W => ones_is CC c hn6 W
            obtain ⟨Y2, hY2⟩ : ∃ Y2, Y2 = bs (bitsU CC c) := ⟨_, rfl⟩
            rw [← hY2] at o3 t3
            clear hCC hY2
            obtain ⟨CD, hCD⟩ : ∃ CD, CD = upto c A := ⟨_, rfl⟩
            have R3 : Hid (Arr wr (wb + 1 + 1 + 1) 6 CD) := by rw [hCD]; exact HI.out.a3
            rw [← hCD] at t4
            have o4 := fun W => ones_is CD c hn6 W
            obtain ⟨Y3, hY3⟩ : ∃ Y3, Y3 = bs (bitsU CD c) := ⟨_, rfl⟩
            rw [← hY3] at o4 t4
            clear hCD hY3
            obtain ⟨CE, hCE⟩ : ∃ CE, CE = upto c D := ⟨_, rfl⟩
            have R4 : Hid (Arr wr (wb + 1 + 1 + 1 + 1) 6 CE) := by rw [hCE]; exact HI.out.a4
            rw [← hCE] at t5
            have o5 := fun W => ones_is CE c hn6 W
            obtain ⟨Y4, hY4⟩ : ∃ Y4, Y4 = bs (bitsU CE c) := ⟨_, rfl⟩
            rw [← hY4] at o5 t5
            clear hCE hY4
            have hbz : Hid (Below w.heap.size w wr) := HI.out.bel
            have hzz : w1.heap.size < wr.heap.size := HI.out.pl.lt
            clear HI HU HV HX HA HD HRG HFO HLV
            go_wp2_with (first
              | (refine loadT 30 55 Try.size30 Try.row30 (by rfl) _ (by rfl) w1.heap.size (by rfl) P HR0.out hlen ?_)
              | (go_at_call 11; refine (HTX _).mono ?_; rintro e v0 ⟨rfl, hv0⟩
                 have cn0 := (hv0.cell (p := ⟨w1.heap.size, 0, none⟩) hzz).trans cn
                 have hz0 : w1.heap.size < v0.heap.size := Nat.lt_of_lt_of_le hzz hv0.size
                 have B0 : Hid (Below w.heap.size w v0) := Below.to hbz.out hv0
                 have S00 : Hid (Arr v0 (wb) 6 CA) := R0.out.below hv0 R0.out.lt
                 have S01 : Hid (Arr v0 (wb + 1) 6 CB) := R1.out.below hv0 R1.out.lt
                 have S02 : Hid (Arr v0 (wb + 1 + 1) 6 CC) := R2.out.below hv0 R2.out.lt
                 have S03 : Hid (Arr v0 (wb + 1 + 1 + 1) 6 CD) := R3.out.below hv0 R3.out.lt
                 have S04 : Hid (Arr v0 (wb + 1 + 1 + 1 + 1) 6 CE) := R4.out.below hv0 R4.out.lt
                 clear hv0 R0 R1 R2 R3 R4 HR0 hbz)
              | (refine loadT 27 6 Try.size27 Try.row27 (by rfl) _ (by rfl) (wb) (by rfl) (bools 6 CA) S00.out.range (bools_len _ _) ?_; rw [bools6])
              | (go_at_call_of 13 (Value.agg (six CA)); refine (o1 _).mono ?_; rintro e x0 ⟨rfl, hx0⟩)
              | (go_at_call_of 12 (Value.string Y0); refine (t1 _).mono ?_; rintro e v1 ⟨rfl, hv1⟩
                 have hw0 : Below v0.heap.size v0 v1 := Below.to hx0 hv1
                 have cn1 := (hw0.cell (p := ⟨w1.heap.size, 0, none⟩) hz0).trans cn0
                 have hz1 : w1.heap.size < v1.heap.size := Nat.lt_of_lt_of_le hz0 hw0.size
                 have B1 : Hid (Below w.heap.size w v1) := Below.to B0.out hw0
                 have S11 : Hid (Arr v1 (wb + 1) 6 CB) := S01.out.below hw0 S01.out.lt
                 have S12 : Hid (Arr v1 (wb + 1 + 1) 6 CC) := S02.out.below hw0 S02.out.lt
                 have S13 : Hid (Arr v1 (wb + 1 + 1 + 1) 6 CD) := S03.out.below hw0 S03.out.lt
                 have S14 : Hid (Arr v1 (wb + 1 + 1 + 1 + 1) 6 CE) := S04.out.below hw0 S04.out.lt
                 clear hw0 hx0 hv1 B0)
              | (refine loadT 27 6 Try.size27 Try.row27 (by rfl) _ (by rfl) (wb + 1) (by rfl) (bools 6 CB) S11.out.range (bools_len _ _) ?_; rw [bools6])
              | (go_at_call_of 13 (Value.agg (six CB)); refine (o2 _).mono ?_; rintro e x1 ⟨rfl, hx1⟩)
              | (go_at_call_of 12 (Value.string Y1); refine (t2 _).mono ?_; rintro e v2 ⟨rfl, hv2⟩
                 have hw1 : Below v1.heap.size v1 v2 := Below.to hx1 hv2
                 have cn2 := (hw1.cell (p := ⟨w1.heap.size, 0, none⟩) hz1).trans cn1
                 have hz2 : w1.heap.size < v2.heap.size := Nat.lt_of_lt_of_le hz1 hw1.size
                 have B2 : Hid (Below w.heap.size w v2) := Below.to B1.out hw1
                 have S22 : Hid (Arr v2 (wb + 1 + 1) 6 CC) := S12.out.below hw1 S12.out.lt
                 have S23 : Hid (Arr v2 (wb + 1 + 1 + 1) 6 CD) := S13.out.below hw1 S13.out.lt
                 have S24 : Hid (Arr v2 (wb + 1 + 1 + 1 + 1) 6 CE) := S14.out.below hw1 S14.out.lt
                 clear hw1 hx1 hv2 B1)
              | (refine loadT 27 6 Try.size27 Try.row27 (by rfl) _ (by rfl) (wb + 1 + 1) (by rfl) (bools 6 CC) S22.out.range (bools_len _ _) ?_; rw [bools6])
              | (go_at_call_of 13 (Value.agg (six CC)); refine (o3 _).mono ?_; rintro e x2 ⟨rfl, hx2⟩)
              | (go_at_call_of 12 (Value.string Y2); refine (t3 _).mono ?_; rintro e v3 ⟨rfl, hv3⟩
                 have hw2 : Below v2.heap.size v2 v3 := Below.to hx2 hv3
                 have cn3 := (hw2.cell (p := ⟨w1.heap.size, 0, none⟩) hz2).trans cn2
                 have hz3 : w1.heap.size < v3.heap.size := Nat.lt_of_lt_of_le hz2 hw2.size
                 have B3 : Hid (Below w.heap.size w v3) := Below.to B2.out hw2
                 have S33 : Hid (Arr v3 (wb + 1 + 1 + 1) 6 CD) := S23.out.below hw2 S23.out.lt
                 have S34 : Hid (Arr v3 (wb + 1 + 1 + 1 + 1) 6 CE) := S24.out.below hw2 S24.out.lt
                 clear hw2 hx2 hv3 B2)
              | (refine loadT 27 6 Try.size27 Try.row27 (by rfl) _ (by rfl) (wb + 1 + 1 + 1) (by rfl) (bools 6 CD) S33.out.range (bools_len _ _) ?_; rw [bools6])
              | (go_at_call_of 13 (Value.agg (six CD)); refine (o4 _).mono ?_; rintro e x3 ⟨rfl, hx3⟩)
              | (go_at_call_of 12 (Value.string Y3); refine (t4 _).mono ?_; rintro e v4 ⟨rfl, hv4⟩
                 have hw3 : Below v3.heap.size v3 v4 := Below.to hx3 hv4
                 have cn4 := (hw3.cell (p := ⟨w1.heap.size, 0, none⟩) hz3).trans cn3
                 have hz4 : w1.heap.size < v4.heap.size := Nat.lt_of_lt_of_le hz3 hw3.size
                 have B4 : Hid (Below w.heap.size w v4) := Below.to B3.out hw3
                 have S44 : Hid (Arr v4 (wb + 1 + 1 + 1 + 1) 6 CE) := S34.out.below hw3 S34.out.lt
                 clear hw3 hx3 hv4 B3)
              | (refine loadT 27 6 Try.size27 Try.row27 (by rfl) _ (by rfl) (wb + 1 + 1 + 1 + 1) (by rfl) (bools 6 CE) S44.out.range (bools_len _ _) ?_; rw [bools6])
              | (go_at_call_of 13 (Value.agg (six CE)); refine (o5 _).mono ?_; rintro e x4 ⟨rfl, hx4⟩)
              | (go_at_call_of 12 (Value.string Y4); refine (t5 _).mono ?_; rintro e v5 ⟨rfl, hv5⟩
                 have hw4 : Below v4.heap.size v4 v5 := Below.to hx4 hv5
                 have cn5 := (hw4.cell (p := ⟨w1.heap.size, 0, none⟩) hz4).trans cn4
                 have hz5 : w1.heap.size < v5.heap.size := Nat.lt_of_lt_of_le hz4 hw4.size
                 have B5 : Hid (Below w.heap.size w v5) := Below.to B4.out hw4
                 clear hw4 hx4 hv5 B4))
            go_ret
            exact ⟨rfl, B5.out⟩

      | false =>
        go_wp2_with fail
        generalize hF : (⟨#[113, 114]⟩ : ByteArray).extract (2 - m) 2 = F
        obtain ⟨hfo, hlv⟩ := lives_iff (mk := mk) (n := i) hm hF.symm
        have HFS : Hid (F.size ≤ 9223372036854775807) := by
          have : F.size ≤ 2 := by
            have h := hfo
            unfold fairOk at h
            rw [Bool.and_eq_true, decide_eq_true_eq] at h
            exact h.1
          show F.size ≤ _
          omega
        have HFO : Hid (fairOk F = true) := hfo
        have HLV : Hid (false = true ↔ ∀ c ∈ fsOf F, ∃ d, d < i ∧ ∃ k, k < 3 ∧ mk d k = true ∧ c = 112 + k) := by
          show _ ↔ _
          rw [← hlv, ← HQ.out, ← HR.out]
          exact Iff.of_eq (congrArg (· = true) (by rw [Bool.false_and]))
        clear hfo hlv hF HQ HR
        obtain ⟨E, hE⟩ : ∃ E, E = ringE i i := ⟨_, rfl⟩
        have HRG : Hid (∀ a b, a < i → b < i → E a b = decide (b = (a + 1) % i)) := by
          intro a b ha _
          rw [hE]
          unfold ringE
          rw [decide_eq_true ha, Bool.true_and]
        rw [← hE] at HP
        clear hE
        obtain ⟨U, hU⟩ : ∃ U : Nat → Bool, U = fun j => goes i mk false j && false := ⟨_, rfl⟩
        obtain ⟨V, hV⟩ : ∃ V : Nat → Bool, V = fun j => goes i mk true j && false := ⟨_, rfl⟩
        obtain ⟨X, hX⟩ : ∃ X : Nat → Bool, X = fun j => mk ((j + 1) % i) 0 && false := ⟨_, rfl⟩
        obtain ⟨A, hA⟩ : ∃ A : Nat → Bool, A = fun j => goes i mk false j || !false := ⟨_, rfl⟩
        obtain ⟨D, hD⟩ : ∃ D : Nat → Bool, D = fun j => goes i mk true j || !false := ⟨_, rfl⟩
        have HU : Hid (∀ j, U j = (goes i mk false j && false)) := fun j => by rw [hU]
        have HV : Hid (∀ j, V j = (goes i mk true j && false)) := fun j => by rw [hV]
        have HX : Hid (∀ j, X j = (mk ((j + 1) % i) 0 && false)) := fun j => by rw [hX]
        have HA : Hid (∀ j, A j = (goes i mk false j || !false)) := fun j => by rw [hA]
        have HD : Hid (∀ j, D j = (goes i mk true j || !false)) := fun j => by rw [hD]
        clear hU hV hX hA hD
        have hb5 := (below3 wr (.cells (six fun _ => false) 27) (.cells (six fun _ => false) 27) (.cells (six fun _ => false) 27)).trans ((below1 _ (.cells (six fun _ => false) 27)).mono (by simp; omega))
        have HI0 : Hid (RI w (((((wr.alloc (.cells (six fun _ => false) 27)).alloc (.cells (six fun _ => false) 27)).alloc (.cells (six fun _ => false) 27)).alloc (.cells (six fun _ => false) 27)).alloc (.cells (six fun _ => false) 27)) w1.heap.size i wr.heap.size mk E U V X A D 0) := by
          have hb6 : Below wr.heap.size wr (((((wr.alloc (.cells (six fun _ => false) 27)).alloc (.cells (six fun _ => false) 27)).alloc (.cells (six fun _ => false) 27)).alloc (.cells (six fun _ => false) 27)).alloc (.cells (six fun _ => false) 27)) := hb5.trans ((below1 _ _).mono (by simp; omega))
          rw [show (fun _ => false : Nat → Bool) = upto 0 U from by funext j; simp [upto]]
          refine ⟨?_, ?_, ?_, ?_, ?_, ?_, ?_⟩
          · exact Below.to HB.out hb6
          · exact HP.out.below hb6 HP.out.lt
          · exact ((((arr_new wr _ 27).alloc _).alloc _).alloc _).alloc _
          · rw [show upto 0 V = upto 0 U from by funext j; simp [upto]]; exact (((arr_at _ _ 27 _ (by simp)).alloc _).alloc _).alloc _
          · rw [show upto 0 X = upto 0 U from by funext j; simp [upto]]; exact ((arr_at _ _ 27 _ (by simp)).alloc _).alloc _
          · rw [show upto 0 A = upto 0 U from by funext j; simp [upto]]; exact (arr_at _ _ 27 _ (by simp)).alloc _
          · rw [show upto 0 D = upto 0 U from by funext j; simp [upto]]; exact arr_at _ _ 27 _ (by simp)
        clear hb5
        have hpb0 := HP.out.lt
        have hwb0 : w.heap.size ≤ wr.heap.size := HB.out.size
        obtain ⟨wb, hwbe⟩ : ∃ wb, wb = wr.heap.size := ⟨_, rfl⟩
        rw [← hwbe] at HI0 hpb0 hwb0
        rw [← hwbe]
        have hpb : w1.heap.size < wb := hpb0
        have hwb : w.heap.size ≤ wb := hwb0
        clear hpb0 hwb0 cn HP HB hi hlt
        have hlen := planCells_len i mk E
        obtain ⟨P, hPP⟩ : ∃ P, P = planCells i mk E := ⟨_, rfl⟩
        rw [← hPP] at hlen
        have HPP : Hid (P = planCells i mk E) := hPP
        clear hPP
        go_loopw [18] (fun q wr => ∃ c : Nat, c ≤ i ∧ q = .int .i64 c ∧ Hid (RI w wr w1.heap.size i wb mk E U V X A D c)) (fun q _ => i - (intOf q).toNat)
        case atStart => exact ⟨0, by omega, rfl, HI0⟩
        case round =>
          clear HI0 hwbe
          obtain ⟨c, hc, rfl, HI⟩ := hrel
          have cn := HI.out.pl.cn
          have HR0 : Hid (wr.rangeAt w1.heap.size 0 P) := by show World.rangeAt _ _ _ _; rw [HPP.out]; exact HI.out.pl.range
          by_cases hlt : c < i
          · obtain ⟨t, ht⟩ : ∃ t, t = (c + 1) % i := ⟨_, rfl⟩
            have htn : t < i := by rw [ht]; exact Nat.mod_lt _ hn0
            have e1 : ((c : Int) + 1) % (i : Int) = (t : Int) := by rw [ht]; simp
            have e2 : ((c : Int) + 1).tmod (i : Int) = (t : Int) := by rw [Int.tmod_eq_emod_of_nonneg (by omega)]; exact e1
            have wk0 : IntKind.i64.wrap ((c : Int) + 1) = (c : Int) + 1 := wrap_small _ (by clear e1 e2; omega) (by clear e1 e2; omega)
            have HW0 := fun W => walk_is i c false mk E W hn0 hn6 hlt
            have HW1 := fun W => walk_is i c true mk E W hn0 hn6 hlt
            rw [← HPP.out] at HW0 HW1
            obtain ⟨u, hu⟩ : ∃ u, u = goes i mk false c := ⟨_, rfl⟩
            obtain ⟨v, hv⟩ : ∃ v, v = goes i mk true c := ⟨_, rfl⟩
            obtain ⟨x, hx⟩ : ∃ x, x = mk t 0 := ⟨_, rfl⟩
            have HUU : Hid (U c = (u && false)) := by rw [hu]; exact HU.out c
            have HVV : Hid (V c = (v && false)) := by rw [hv]; exact HV.out c
            have HXX : Hid (X c = (x && false)) := by rw [hx, ht]; exact HX.out c
            have HAA : Hid (A c = (u || !false)) := by rw [hu]; exact HA.out c
            have HDD : Hid (D c = (v || !false)) := by rw [hv]; exact HD.out c
            have HM0 : Hid (∀ W, Pl W w1.heap.size i mk E → W.cell? ⟨w1.heap.size, 1 + t * 3, none⟩ = some (.bool x)) := fun W h => by
              rw [hx]; exact h.cm t 0 (by omega) (by omega)
            rw [← hu] at HW0
            rw [← hv] at HW1
            have c0 : (0 : Int) ≤ (c : Int) := by omega
            have c6 : (c : Int) < 6 := by omega
            have hc6 : c < 6 := by omega
            have t0 : (0 : Int) ≤ (t : Int) := by omega
            have t1 : (t : Int) < 6 := by omega
            have n00 : ¬ i = 0 := by omega
            have n01 : ¬ (i : Int) = 0 := by omega
            have q01 : wb ≠ wb + 1 := by omega
            have q02 : wb ≠ wb + 1 + 1 := by omega
            have q03 : wb ≠ wb + 1 + 1 + 1 := by omega
            have q04 : wb ≠ wb + 1 + 1 + 1 + 1 := by omega
            have q10 : wb + 1 ≠ wb := by omega
            have q12 : wb + 1 ≠ wb + 1 + 1 := by omega
            have q13 : wb + 1 ≠ wb + 1 + 1 + 1 := by omega
            have q14 : wb + 1 ≠ wb + 1 + 1 + 1 + 1 := by omega
            have q20 : wb + 1 + 1 ≠ wb := by omega
            have q21 : wb + 1 + 1 ≠ wb + 1 := by omega
            have q23 : wb + 1 + 1 ≠ wb + 1 + 1 + 1 := by omega
            have q24 : wb + 1 + 1 ≠ wb + 1 + 1 + 1 + 1 := by omega
            have q30 : wb + 1 + 1 + 1 ≠ wb := by omega
            have q31 : wb + 1 + 1 + 1 ≠ wb + 1 := by omega
            have q32 : wb + 1 + 1 + 1 ≠ wb + 1 + 1 := by omega
            have q34 : wb + 1 + 1 + 1 ≠ wb + 1 + 1 + 1 + 1 := by omega
            have q40 : wb + 1 + 1 + 1 + 1 ≠ wb := by omega
            have q41 : wb + 1 + 1 + 1 + 1 ≠ wb + 1 := by omega
            have q42 : wb + 1 + 1 + 1 + 1 ≠ wb + 1 + 1 := by omega
            have q43 : wb + 1 + 1 + 1 + 1 ≠ wb + 1 + 1 + 1 := by omega
            clear ht e1 hu hv hx HU HV HX HA HD
            cases u with
            | true =>
              cases v with
              | true =>
                cases x with
                | true =>
                  go_wp2_with (first
                    | (refine loadT 30 55 Try.size30 Try.row30 (by rfl) _ (by rfl) w1.heap.size (by rfl) P HR5.out hlen ?_)
                    | (refine loadT 30 55 Try.size30 Try.row30 (by rfl) _ (by rfl) w1.heap.size (by rfl) P HR0.out hlen ?_)
                    | (go_at_call_of 15 (Value.bool false); refine (HW0 _).mono ?_; rintro e w5 ⟨rfl, hb5⟩
                       have HI5 : Hid (RI w w5 w1.heap.size i wb mk E U V X A D c) := HI.out.below hb5
                       have HR5 : Hid (w5.rangeAt w1.heap.size 0 P) := by show World.rangeAt _ _ _ _; rw [HPP.out]; exact HI5.out.pl.range
                       clear hb5 HI))
                  refine (HW1 _).mono ?_
                  rintro e w6 ⟨rfl, hb6⟩
                  have HI6 : Hid (RI w w6 w1.heap.size i wb mk E U V X A D c) := HI5.out.below hb6
                  have cn6 := HI6.out.pl.cn
                  have cm6 := HM0.out w6 HI6.out.pl
                  have f0 := HI6.out.a0.c c hc6
                  have f1 := HI6.out.a1.c c hc6
                  have f2 := HI6.out.a2.c c hc6
                  have f3 := HI6.out.a3.c c hc6
                  have f4 := HI6.out.a4.c c hc6
                  have g0 := HI6.out.a0.z c hc6
                  have g1 := HI6.out.a1.z c hc6
                  have g2 := HI6.out.a2.z c hc6
                  have g3 := HI6.out.a3.z c hc6
                  have g4 := HI6.out.a4.z c hc6
                  have HN : Hid (∀ b0 b1 b2 b3 b4 : Bool, b0 = U c → b1 = V c → b2 = X c → b3 = A c → b4 = D c → RI w (((((w6.setCell ⟨wb, c, none⟩ (.bool b0)).setCell ⟨wb + 1, c, none⟩ (.bool b1)).setCell ⟨wb + 1 + 1, c, none⟩ (.bool b2)).setCell ⟨wb + 1 + 1 + 1, c, none⟩ (.bool b3)).setCell ⟨wb + 1 + 1 + 1 + 1, c, none⟩ (.bool b4)) w1.heap.size i wb mk E U V X A D (c + 1)) := HI6.out.more hc6 hpb hwb
                  clear hb6 HI5 HR5 HI6
                  clear q01 q02 q03 q04 q10 q12 q13 q14 q20 q21 q23 q24 q30 q31 q32 q34 q40 q41 q42 q43
                  go_wp2_with fail
                  go_roundw
                  case rel => exact ⟨c + 1, by omega, by go_num, HN.out _ _ _ _ _ (by rw [HUU.out]; rfl) (by rw [HVV.out]; rfl) (by rw [HXX.out]; rfl) (by rw [HAA.out]; rfl) (by rw [HDD.out]; rfl)⟩
                  case measure => simp [intOf]; omega
                | false =>
                  go_wp2_with (first
                    | (refine loadT 30 55 Try.size30 Try.row30 (by rfl) _ (by rfl) w1.heap.size (by rfl) P HR5.out hlen ?_)
                    | (refine loadT 30 55 Try.size30 Try.row30 (by rfl) _ (by rfl) w1.heap.size (by rfl) P HR0.out hlen ?_)
                    | (go_at_call_of 15 (Value.bool false); refine (HW0 _).mono ?_; rintro e w5 ⟨rfl, hb5⟩
                       have HI5 : Hid (RI w w5 w1.heap.size i wb mk E U V X A D c) := HI.out.below hb5
                       have HR5 : Hid (w5.rangeAt w1.heap.size 0 P) := by show World.rangeAt _ _ _ _; rw [HPP.out]; exact HI5.out.pl.range
                       clear hb5 HI))
                  refine (HW1 _).mono ?_
                  rintro e w6 ⟨rfl, hb6⟩
                  have HI6 : Hid (RI w w6 w1.heap.size i wb mk E U V X A D c) := HI5.out.below hb6
                  have cn6 := HI6.out.pl.cn
                  have cm6 := HM0.out w6 HI6.out.pl
                  have f0 := HI6.out.a0.c c hc6
                  have f1 := HI6.out.a1.c c hc6
                  have f2 := HI6.out.a2.c c hc6
                  have f3 := HI6.out.a3.c c hc6
                  have f4 := HI6.out.a4.c c hc6
                  have g0 := HI6.out.a0.z c hc6
                  have g1 := HI6.out.a1.z c hc6
                  have g2 := HI6.out.a2.z c hc6
                  have g3 := HI6.out.a3.z c hc6
                  have g4 := HI6.out.a4.z c hc6
                  have HN : Hid (∀ b0 b1 b2 b3 b4 : Bool, b0 = U c → b1 = V c → b2 = X c → b3 = A c → b4 = D c → RI w (((((w6.setCell ⟨wb, c, none⟩ (.bool b0)).setCell ⟨wb + 1, c, none⟩ (.bool b1)).setCell ⟨wb + 1 + 1, c, none⟩ (.bool b2)).setCell ⟨wb + 1 + 1 + 1, c, none⟩ (.bool b3)).setCell ⟨wb + 1 + 1 + 1 + 1, c, none⟩ (.bool b4)) w1.heap.size i wb mk E U V X A D (c + 1)) := HI6.out.more hc6 hpb hwb
                  clear hb6 HI5 HR5 HI6
                  clear q01 q02 q03 q04 q10 q12 q13 q14 q20 q21 q23 q24 q30 q31 q32 q34 q40 q41 q42 q43
                  go_wp2_with fail
                  go_roundw
                  case rel => exact ⟨c + 1, by omega, by go_num, HN.out _ _ _ _ _ (by rw [HUU.out]; rfl) (by rw [HVV.out]; rfl) (by rw [HXX.out]; rfl) (by rw [HAA.out]; rfl) (by rw [HDD.out]; rfl)⟩
                  case measure => simp [intOf]; omega
              | false =>
                cases x with
                | true =>
                  go_wp2_with (first
                    | (refine loadT 30 55 Try.size30 Try.row30 (by rfl) _ (by rfl) w1.heap.size (by rfl) P HR5.out hlen ?_)
                    | (refine loadT 30 55 Try.size30 Try.row30 (by rfl) _ (by rfl) w1.heap.size (by rfl) P HR0.out hlen ?_)
                    | (go_at_call_of 15 (Value.bool false); refine (HW0 _).mono ?_; rintro e w5 ⟨rfl, hb5⟩
                       have HI5 : Hid (RI w w5 w1.heap.size i wb mk E U V X A D c) := HI.out.below hb5
                       have HR5 : Hid (w5.rangeAt w1.heap.size 0 P) := by show World.rangeAt _ _ _ _; rw [HPP.out]; exact HI5.out.pl.range
                       clear hb5 HI))
                  refine (HW1 _).mono ?_
                  rintro e w6 ⟨rfl, hb6⟩
                  have HI6 : Hid (RI w w6 w1.heap.size i wb mk E U V X A D c) := HI5.out.below hb6
                  have cn6 := HI6.out.pl.cn
                  have cm6 := HM0.out w6 HI6.out.pl
                  have f0 := HI6.out.a0.c c hc6
                  have f1 := HI6.out.a1.c c hc6
                  have f2 := HI6.out.a2.c c hc6
                  have f3 := HI6.out.a3.c c hc6
                  have f4 := HI6.out.a4.c c hc6
                  have g0 := HI6.out.a0.z c hc6
                  have g1 := HI6.out.a1.z c hc6
                  have g2 := HI6.out.a2.z c hc6
                  have g3 := HI6.out.a3.z c hc6
                  have g4 := HI6.out.a4.z c hc6
                  have HN : Hid (∀ b0 b1 b2 b3 b4 : Bool, b0 = U c → b1 = V c → b2 = X c → b3 = A c → b4 = D c → RI w (((((w6.setCell ⟨wb, c, none⟩ (.bool b0)).setCell ⟨wb + 1, c, none⟩ (.bool b1)).setCell ⟨wb + 1 + 1, c, none⟩ (.bool b2)).setCell ⟨wb + 1 + 1 + 1, c, none⟩ (.bool b3)).setCell ⟨wb + 1 + 1 + 1 + 1, c, none⟩ (.bool b4)) w1.heap.size i wb mk E U V X A D (c + 1)) := HI6.out.more hc6 hpb hwb
                  clear hb6 HI5 HR5 HI6
                  clear q01 q02 q03 q04 q10 q12 q13 q14 q20 q21 q23 q24 q30 q31 q32 q34 q40 q41 q42 q43
                  go_wp2_with fail
                  go_roundw
                  case rel => exact ⟨c + 1, by omega, by go_num, HN.out _ _ _ _ _ (by rw [HUU.out]; rfl) (by rw [HVV.out]; rfl) (by rw [HXX.out]; rfl) (by rw [HAA.out]; rfl) (by rw [HDD.out]; rfl)⟩
                  case measure => simp [intOf]; omega
                | false =>
                  go_wp2_with (first
                    | (refine loadT 30 55 Try.size30 Try.row30 (by rfl) _ (by rfl) w1.heap.size (by rfl) P HR5.out hlen ?_)
                    | (refine loadT 30 55 Try.size30 Try.row30 (by rfl) _ (by rfl) w1.heap.size (by rfl) P HR0.out hlen ?_)
                    | (go_at_call_of 15 (Value.bool false); refine (HW0 _).mono ?_; rintro e w5 ⟨rfl, hb5⟩
                       have HI5 : Hid (RI w w5 w1.heap.size i wb mk E U V X A D c) := HI.out.below hb5
                       have HR5 : Hid (w5.rangeAt w1.heap.size 0 P) := by show World.rangeAt _ _ _ _; rw [HPP.out]; exact HI5.out.pl.range
                       clear hb5 HI))
                  refine (HW1 _).mono ?_
                  rintro e w6 ⟨rfl, hb6⟩
                  have HI6 : Hid (RI w w6 w1.heap.size i wb mk E U V X A D c) := HI5.out.below hb6
                  have cn6 := HI6.out.pl.cn
                  have cm6 := HM0.out w6 HI6.out.pl
                  have f0 := HI6.out.a0.c c hc6
                  have f1 := HI6.out.a1.c c hc6
                  have f2 := HI6.out.a2.c c hc6
                  have f3 := HI6.out.a3.c c hc6
                  have f4 := HI6.out.a4.c c hc6
                  have g0 := HI6.out.a0.z c hc6
                  have g1 := HI6.out.a1.z c hc6
                  have g2 := HI6.out.a2.z c hc6
                  have g3 := HI6.out.a3.z c hc6
                  have g4 := HI6.out.a4.z c hc6
                  have HN : Hid (∀ b0 b1 b2 b3 b4 : Bool, b0 = U c → b1 = V c → b2 = X c → b3 = A c → b4 = D c → RI w (((((w6.setCell ⟨wb, c, none⟩ (.bool b0)).setCell ⟨wb + 1, c, none⟩ (.bool b1)).setCell ⟨wb + 1 + 1, c, none⟩ (.bool b2)).setCell ⟨wb + 1 + 1 + 1, c, none⟩ (.bool b3)).setCell ⟨wb + 1 + 1 + 1 + 1, c, none⟩ (.bool b4)) w1.heap.size i wb mk E U V X A D (c + 1)) := HI6.out.more hc6 hpb hwb
                  clear hb6 HI5 HR5 HI6
                  clear q01 q02 q03 q04 q10 q12 q13 q14 q20 q21 q23 q24 q30 q31 q32 q34 q40 q41 q42 q43
                  go_wp2_with fail
                  go_roundw
                  case rel => exact ⟨c + 1, by omega, by go_num, HN.out _ _ _ _ _ (by rw [HUU.out]; rfl) (by rw [HVV.out]; rfl) (by rw [HXX.out]; rfl) (by rw [HAA.out]; rfl) (by rw [HDD.out]; rfl)⟩
                  case measure => simp [intOf]; omega
            | false =>
              cases v with
              | true =>
                cases x with
                | true =>
                  go_wp2_with (first
                    | (refine loadT 30 55 Try.size30 Try.row30 (by rfl) _ (by rfl) w1.heap.size (by rfl) P HR5.out hlen ?_)
                    | (refine loadT 30 55 Try.size30 Try.row30 (by rfl) _ (by rfl) w1.heap.size (by rfl) P HR0.out hlen ?_)
                    | (go_at_call_of 15 (Value.bool false); refine (HW0 _).mono ?_; rintro e w5 ⟨rfl, hb5⟩
                       have HI5 : Hid (RI w w5 w1.heap.size i wb mk E U V X A D c) := HI.out.below hb5
                       have HR5 : Hid (w5.rangeAt w1.heap.size 0 P) := by show World.rangeAt _ _ _ _; rw [HPP.out]; exact HI5.out.pl.range
                       clear hb5 HI))
                  refine (HW1 _).mono ?_
                  rintro e w6 ⟨rfl, hb6⟩
                  have HI6 : Hid (RI w w6 w1.heap.size i wb mk E U V X A D c) := HI5.out.below hb6
                  have cn6 := HI6.out.pl.cn
                  have cm6 := HM0.out w6 HI6.out.pl
                  have f0 := HI6.out.a0.c c hc6
                  have f1 := HI6.out.a1.c c hc6
                  have f2 := HI6.out.a2.c c hc6
                  have f3 := HI6.out.a3.c c hc6
                  have f4 := HI6.out.a4.c c hc6
                  have g0 := HI6.out.a0.z c hc6
                  have g1 := HI6.out.a1.z c hc6
                  have g2 := HI6.out.a2.z c hc6
                  have g3 := HI6.out.a3.z c hc6
                  have g4 := HI6.out.a4.z c hc6
                  have HN : Hid (∀ b0 b1 b2 b3 b4 : Bool, b0 = U c → b1 = V c → b2 = X c → b3 = A c → b4 = D c → RI w (((((w6.setCell ⟨wb, c, none⟩ (.bool b0)).setCell ⟨wb + 1, c, none⟩ (.bool b1)).setCell ⟨wb + 1 + 1, c, none⟩ (.bool b2)).setCell ⟨wb + 1 + 1 + 1, c, none⟩ (.bool b3)).setCell ⟨wb + 1 + 1 + 1 + 1, c, none⟩ (.bool b4)) w1.heap.size i wb mk E U V X A D (c + 1)) := HI6.out.more hc6 hpb hwb
                  clear hb6 HI5 HR5 HI6
                  clear q01 q02 q03 q04 q10 q12 q13 q14 q20 q21 q23 q24 q30 q31 q32 q34 q40 q41 q42 q43
                  go_wp2_with fail
                  go_roundw
                  case rel => exact ⟨c + 1, by omega, by go_num, HN.out _ _ _ _ _ (by rw [HUU.out]; rfl) (by rw [HVV.out]; rfl) (by rw [HXX.out]; rfl) (by rw [HAA.out]; rfl) (by rw [HDD.out]; rfl)⟩
                  case measure => simp [intOf]; omega
                | false =>
                  go_wp2_with (first
                    | (refine loadT 30 55 Try.size30 Try.row30 (by rfl) _ (by rfl) w1.heap.size (by rfl) P HR5.out hlen ?_)
                    | (refine loadT 30 55 Try.size30 Try.row30 (by rfl) _ (by rfl) w1.heap.size (by rfl) P HR0.out hlen ?_)
                    | (go_at_call_of 15 (Value.bool false); refine (HW0 _).mono ?_; rintro e w5 ⟨rfl, hb5⟩
                       have HI5 : Hid (RI w w5 w1.heap.size i wb mk E U V X A D c) := HI.out.below hb5
                       have HR5 : Hid (w5.rangeAt w1.heap.size 0 P) := by show World.rangeAt _ _ _ _; rw [HPP.out]; exact HI5.out.pl.range
                       clear hb5 HI))
                  refine (HW1 _).mono ?_
                  rintro e w6 ⟨rfl, hb6⟩
                  have HI6 : Hid (RI w w6 w1.heap.size i wb mk E U V X A D c) := HI5.out.below hb6
                  have cn6 := HI6.out.pl.cn
                  have cm6 := HM0.out w6 HI6.out.pl
                  have f0 := HI6.out.a0.c c hc6
                  have f1 := HI6.out.a1.c c hc6
                  have f2 := HI6.out.a2.c c hc6
                  have f3 := HI6.out.a3.c c hc6
                  have f4 := HI6.out.a4.c c hc6
                  have g0 := HI6.out.a0.z c hc6
                  have g1 := HI6.out.a1.z c hc6
                  have g2 := HI6.out.a2.z c hc6
                  have g3 := HI6.out.a3.z c hc6
                  have g4 := HI6.out.a4.z c hc6
                  have HN : Hid (∀ b0 b1 b2 b3 b4 : Bool, b0 = U c → b1 = V c → b2 = X c → b3 = A c → b4 = D c → RI w (((((w6.setCell ⟨wb, c, none⟩ (.bool b0)).setCell ⟨wb + 1, c, none⟩ (.bool b1)).setCell ⟨wb + 1 + 1, c, none⟩ (.bool b2)).setCell ⟨wb + 1 + 1 + 1, c, none⟩ (.bool b3)).setCell ⟨wb + 1 + 1 + 1 + 1, c, none⟩ (.bool b4)) w1.heap.size i wb mk E U V X A D (c + 1)) := HI6.out.more hc6 hpb hwb
                  clear hb6 HI5 HR5 HI6
                  clear q01 q02 q03 q04 q10 q12 q13 q14 q20 q21 q23 q24 q30 q31 q32 q34 q40 q41 q42 q43
                  go_wp2_with fail
                  go_roundw
                  case rel => exact ⟨c + 1, by omega, by go_num, HN.out _ _ _ _ _ (by rw [HUU.out]; rfl) (by rw [HVV.out]; rfl) (by rw [HXX.out]; rfl) (by rw [HAA.out]; rfl) (by rw [HDD.out]; rfl)⟩
                  case measure => simp [intOf]; omega
              | false =>
                cases x with
                | true =>
                  go_wp2_with (first
                    | (refine loadT 30 55 Try.size30 Try.row30 (by rfl) _ (by rfl) w1.heap.size (by rfl) P HR5.out hlen ?_)
                    | (refine loadT 30 55 Try.size30 Try.row30 (by rfl) _ (by rfl) w1.heap.size (by rfl) P HR0.out hlen ?_)
                    | (go_at_call_of 15 (Value.bool false); refine (HW0 _).mono ?_; rintro e w5 ⟨rfl, hb5⟩
                       have HI5 : Hid (RI w w5 w1.heap.size i wb mk E U V X A D c) := HI.out.below hb5
                       have HR5 : Hid (w5.rangeAt w1.heap.size 0 P) := by show World.rangeAt _ _ _ _; rw [HPP.out]; exact HI5.out.pl.range
                       clear hb5 HI))
                  refine (HW1 _).mono ?_
                  rintro e w6 ⟨rfl, hb6⟩
                  have HI6 : Hid (RI w w6 w1.heap.size i wb mk E U V X A D c) := HI5.out.below hb6
                  have cn6 := HI6.out.pl.cn
                  have cm6 := HM0.out w6 HI6.out.pl
                  have f0 := HI6.out.a0.c c hc6
                  have f1 := HI6.out.a1.c c hc6
                  have f2 := HI6.out.a2.c c hc6
                  have f3 := HI6.out.a3.c c hc6
                  have f4 := HI6.out.a4.c c hc6
                  have g0 := HI6.out.a0.z c hc6
                  have g1 := HI6.out.a1.z c hc6
                  have g2 := HI6.out.a2.z c hc6
                  have g3 := HI6.out.a3.z c hc6
                  have g4 := HI6.out.a4.z c hc6
                  have HN : Hid (∀ b0 b1 b2 b3 b4 : Bool, b0 = U c → b1 = V c → b2 = X c → b3 = A c → b4 = D c → RI w (((((w6.setCell ⟨wb, c, none⟩ (.bool b0)).setCell ⟨wb + 1, c, none⟩ (.bool b1)).setCell ⟨wb + 1 + 1, c, none⟩ (.bool b2)).setCell ⟨wb + 1 + 1 + 1, c, none⟩ (.bool b3)).setCell ⟨wb + 1 + 1 + 1 + 1, c, none⟩ (.bool b4)) w1.heap.size i wb mk E U V X A D (c + 1)) := HI6.out.more hc6 hpb hwb
                  clear hb6 HI5 HR5 HI6
                  clear q01 q02 q03 q04 q10 q12 q13 q14 q20 q21 q23 q24 q30 q31 q32 q34 q40 q41 q42 q43
                  go_wp2_with fail
                  go_roundw
                  case rel => exact ⟨c + 1, by omega, by go_num, HN.out _ _ _ _ _ (by rw [HUU.out]; rfl) (by rw [HVV.out]; rfl) (by rw [HXX.out]; rfl) (by rw [HAA.out]; rfl) (by rw [HDD.out]; rfl)⟩
                  case measure => simp [intOf]; omega
                | false =>
                  go_wp2_with (first
                    | (refine loadT 30 55 Try.size30 Try.row30 (by rfl) _ (by rfl) w1.heap.size (by rfl) P HR5.out hlen ?_)
                    | (refine loadT 30 55 Try.size30 Try.row30 (by rfl) _ (by rfl) w1.heap.size (by rfl) P HR0.out hlen ?_)
                    | (go_at_call_of 15 (Value.bool false); refine (HW0 _).mono ?_; rintro e w5 ⟨rfl, hb5⟩
                       have HI5 : Hid (RI w w5 w1.heap.size i wb mk E U V X A D c) := HI.out.below hb5
                       have HR5 : Hid (w5.rangeAt w1.heap.size 0 P) := by show World.rangeAt _ _ _ _; rw [HPP.out]; exact HI5.out.pl.range
                       clear hb5 HI))
                  refine (HW1 _).mono ?_
                  rintro e w6 ⟨rfl, hb6⟩
                  have HI6 : Hid (RI w w6 w1.heap.size i wb mk E U V X A D c) := HI5.out.below hb6
                  have cn6 := HI6.out.pl.cn
                  have cm6 := HM0.out w6 HI6.out.pl
                  have f0 := HI6.out.a0.c c hc6
                  have f1 := HI6.out.a1.c c hc6
                  have f2 := HI6.out.a2.c c hc6
                  have f3 := HI6.out.a3.c c hc6
                  have f4 := HI6.out.a4.c c hc6
                  have g0 := HI6.out.a0.z c hc6
                  have g1 := HI6.out.a1.z c hc6
                  have g2 := HI6.out.a2.z c hc6
                  have g3 := HI6.out.a3.z c hc6
                  have g4 := HI6.out.a4.z c hc6
                  have HN : Hid (∀ b0 b1 b2 b3 b4 : Bool, b0 = U c → b1 = V c → b2 = X c → b3 = A c → b4 = D c → RI w (((((w6.setCell ⟨wb, c, none⟩ (.bool b0)).setCell ⟨wb + 1, c, none⟩ (.bool b1)).setCell ⟨wb + 1 + 1, c, none⟩ (.bool b2)).setCell ⟨wb + 1 + 1 + 1, c, none⟩ (.bool b3)).setCell ⟨wb + 1 + 1 + 1 + 1, c, none⟩ (.bool b4)) w1.heap.size i wb mk E U V X A D (c + 1)) := HI6.out.more hc6 hpb hwb
                  clear hb6 HI5 HR5 HI6
                  clear q01 q02 q03 q04 q10 q12 q13 q14 q20 q21 q23 q24 q30 q31 q32 q34 q40 q41 q42 q43
                  go_wp2_with fail
                  go_roundw
                  case rel => exact ⟨c + 1, by omega, by go_num, HN.out _ _ _ _ _ (by rw [HUU.out]; rfl) (by rw [HVV.out]; rfl) (by rw [HXX.out]; rfl) (by rw [HAA.out]; rfl) (by rw [HDD.out]; rfl)⟩
                  case measure => simp [intOf]; omega

          · obtain rfl : c = i := by omega
            obtain ⟨TX, hTX⟩ : ∃ TX, TX = bs (rowsT mk E c c 0) := ⟨_, rfl⟩
            have HTX := fun W => text_is c mk E W hn6
            obtain ⟨so1, so2, so3, so4, so5⟩ := ring_sols (s := TX) (f := F) hn0 hn6 (by rw [hTX, bs_list]) HRG.out HFO.out false HLV.out (U := upto c U) (V := upto c V) (X := upto c X) (A := upto c A) (B := upto c D) (fun j hj => (upto_lt hj).trans (HU.out j)) (fun j hj => (upto_lt hj).trans (HV.out j)) (fun j hj => (upto_lt hj).trans (HX.out j)) (fun j hj => (upto_lt hj).trans (HA.out j)) (fun j hj => (upto_lt hj).trans (HD.out j))
            rw [← hTX, ← HPP.out] at HTX
            clear hTX
            have t1 := fun W => tells_yes _ _ _ _ W HFS.out so1
            have t2 := fun W => tells_yes _ _ _ _ W HFS.out so2
            have t3 := fun W => tells_yes _ _ _ _ W HFS.out so3
            have t4 := fun W => tells_yes _ _ _ _ W HFS.out so4
            have t5 := fun W => tells_yes _ _ _ _ W HFS.out so5
            clear so1 so2 so3 so4 so5
            obtain ⟨CA, hCA⟩ : ∃ CA, CA = upto c U := ⟨_, rfl⟩
            have R0 : Hid (Arr wr (wb) 6 CA) := by rw [hCA]; exact HI.out.a0
            rw [← hCA] at t1
            have o1 := fun W => ones_is CA c hn6 W
            obtain ⟨Y0, hY0⟩ : ∃ Y0, Y0 = bs (bitsU CA c) := ⟨_, rfl⟩
            rw [← hY0] at o1 t1
            clear hCA hY0
            obtain ⟨CB, hCB⟩ : ∃ CB, CB = upto c V := ⟨_, rfl⟩
            have R1 : Hid (Arr wr (wb + 1) 6 CB) := by rw [hCB]; exact HI.out.a1
            rw [← hCB] at t2
            have o2 := fun W => ones_is CB c hn6 W
            obtain ⟨Y1, hY1⟩ : ∃ Y1, Y1 = bs (bitsU CB c) := ⟨_, rfl⟩
            rw [← hY1] at o2 t2
            clear hCB hY1
            obtain ⟨CC, hCC⟩ : ∃ CC, CC = upto c X := ⟨_, rfl⟩
            have R2 : Hid (Arr wr (wb + 1 + 1) 6 CC) := by rw [hCC]; exact HI.out.a2
            rw [← hCC] at t3
            have o3 := fun W => ones_is CC c hn6 W
            obtain ⟨Y2, hY2⟩ : ∃ Y2, Y2 = bs (bitsU CC c) := ⟨_, rfl⟩
            rw [← hY2] at o3 t3
            clear hCC hY2
            obtain ⟨CD, hCD⟩ : ∃ CD, CD = upto c A := ⟨_, rfl⟩
            have R3 : Hid (Arr wr (wb + 1 + 1 + 1) 6 CD) := by rw [hCD]; exact HI.out.a3
            rw [← hCD] at t4
            have o4 := fun W => ones_is CD c hn6 W
            obtain ⟨Y3, hY3⟩ : ∃ Y3, Y3 = bs (bitsU CD c) := ⟨_, rfl⟩
            rw [← hY3] at o4 t4
            clear hCD hY3
            obtain ⟨CE, hCE⟩ : ∃ CE, CE = upto c D := ⟨_, rfl⟩
            have R4 : Hid (Arr wr (wb + 1 + 1 + 1 + 1) 6 CE) := by rw [hCE]; exact HI.out.a4
            rw [← hCE] at t5
            have o5 := fun W => ones_is CE c hn6 W
            obtain ⟨Y4, hY4⟩ : ∃ Y4, Y4 = bs (bitsU CE c) := ⟨_, rfl⟩
            rw [← hY4] at o5 t5
            clear hCE hY4
            have hbz : Hid (Below w.heap.size w wr) := HI.out.bel
            have hzz : w1.heap.size < wr.heap.size := HI.out.pl.lt
            clear HI HU HV HX HA HD HRG HFO HLV
            go_wp2_with (first
              | (refine loadT 30 55 Try.size30 Try.row30 (by rfl) _ (by rfl) w1.heap.size (by rfl) P HR0.out hlen ?_)
              | (go_at_call 11; refine (HTX _).mono ?_; rintro e v0 ⟨rfl, hv0⟩
                 have cn0 := (hv0.cell (p := ⟨w1.heap.size, 0, none⟩) hzz).trans cn
                 have hz0 : w1.heap.size < v0.heap.size := Nat.lt_of_lt_of_le hzz hv0.size
                 have B0 : Hid (Below w.heap.size w v0) := Below.to hbz.out hv0
                 have S00 : Hid (Arr v0 (wb) 6 CA) := R0.out.below hv0 R0.out.lt
                 have S01 : Hid (Arr v0 (wb + 1) 6 CB) := R1.out.below hv0 R1.out.lt
                 have S02 : Hid (Arr v0 (wb + 1 + 1) 6 CC) := R2.out.below hv0 R2.out.lt
                 have S03 : Hid (Arr v0 (wb + 1 + 1 + 1) 6 CD) := R3.out.below hv0 R3.out.lt
                 have S04 : Hid (Arr v0 (wb + 1 + 1 + 1 + 1) 6 CE) := R4.out.below hv0 R4.out.lt
                 clear hv0 R0 R1 R2 R3 R4 HR0 hbz)
              | (refine loadT 27 6 Try.size27 Try.row27 (by rfl) _ (by rfl) (wb) (by rfl) (bools 6 CA) S00.out.range (bools_len _ _) ?_; rw [bools6])
              | (go_at_call_of 13 (Value.agg (six CA)); refine (o1 _).mono ?_; rintro e x0 ⟨rfl, hx0⟩)
              | (go_at_call_of 12 (Value.string Y0); refine (t1 _).mono ?_; rintro e v1 ⟨rfl, hv1⟩
                 have hw0 : Below v0.heap.size v0 v1 := Below.to hx0 hv1
                 have cn1 := (hw0.cell (p := ⟨w1.heap.size, 0, none⟩) hz0).trans cn0
                 have hz1 : w1.heap.size < v1.heap.size := Nat.lt_of_lt_of_le hz0 hw0.size
                 have B1 : Hid (Below w.heap.size w v1) := Below.to B0.out hw0
                 have S11 : Hid (Arr v1 (wb + 1) 6 CB) := S01.out.below hw0 S01.out.lt
                 have S12 : Hid (Arr v1 (wb + 1 + 1) 6 CC) := S02.out.below hw0 S02.out.lt
                 have S13 : Hid (Arr v1 (wb + 1 + 1 + 1) 6 CD) := S03.out.below hw0 S03.out.lt
                 have S14 : Hid (Arr v1 (wb + 1 + 1 + 1 + 1) 6 CE) := S04.out.below hw0 S04.out.lt
                 clear hw0 hx0 hv1 B0)
              | (refine loadT 27 6 Try.size27 Try.row27 (by rfl) _ (by rfl) (wb + 1) (by rfl) (bools 6 CB) S11.out.range (bools_len _ _) ?_; rw [bools6])
              | (go_at_call_of 13 (Value.agg (six CB)); refine (o2 _).mono ?_; rintro e x1 ⟨rfl, hx1⟩)
              | (go_at_call_of 12 (Value.string Y1); refine (t2 _).mono ?_; rintro e v2 ⟨rfl, hv2⟩
                 have hw1 : Below v1.heap.size v1 v2 := Below.to hx1 hv2
                 have cn2 := (hw1.cell (p := ⟨w1.heap.size, 0, none⟩) hz1).trans cn1
                 have hz2 : w1.heap.size < v2.heap.size := Nat.lt_of_lt_of_le hz1 hw1.size
                 have B2 : Hid (Below w.heap.size w v2) := Below.to B1.out hw1
                 have S22 : Hid (Arr v2 (wb + 1 + 1) 6 CC) := S12.out.below hw1 S12.out.lt
                 have S23 : Hid (Arr v2 (wb + 1 + 1 + 1) 6 CD) := S13.out.below hw1 S13.out.lt
                 have S24 : Hid (Arr v2 (wb + 1 + 1 + 1 + 1) 6 CE) := S14.out.below hw1 S14.out.lt
                 clear hw1 hx1 hv2 B1)
              | (refine loadT 27 6 Try.size27 Try.row27 (by rfl) _ (by rfl) (wb + 1 + 1) (by rfl) (bools 6 CC) S22.out.range (bools_len _ _) ?_; rw [bools6])
              | (go_at_call_of 13 (Value.agg (six CC)); refine (o3 _).mono ?_; rintro e x2 ⟨rfl, hx2⟩)
              | (go_at_call_of 12 (Value.string Y2); refine (t3 _).mono ?_; rintro e v3 ⟨rfl, hv3⟩
                 have hw2 : Below v2.heap.size v2 v3 := Below.to hx2 hv3
                 have cn3 := (hw2.cell (p := ⟨w1.heap.size, 0, none⟩) hz2).trans cn2
                 have hz3 : w1.heap.size < v3.heap.size := Nat.lt_of_lt_of_le hz2 hw2.size
                 have B3 : Hid (Below w.heap.size w v3) := Below.to B2.out hw2
                 have S33 : Hid (Arr v3 (wb + 1 + 1 + 1) 6 CD) := S23.out.below hw2 S23.out.lt
                 have S34 : Hid (Arr v3 (wb + 1 + 1 + 1 + 1) 6 CE) := S24.out.below hw2 S24.out.lt
                 clear hw2 hx2 hv3 B2)
              | (refine loadT 27 6 Try.size27 Try.row27 (by rfl) _ (by rfl) (wb + 1 + 1 + 1) (by rfl) (bools 6 CD) S33.out.range (bools_len _ _) ?_; rw [bools6])
              | (go_at_call_of 13 (Value.agg (six CD)); refine (o4 _).mono ?_; rintro e x3 ⟨rfl, hx3⟩)
              | (go_at_call_of 12 (Value.string Y3); refine (t4 _).mono ?_; rintro e v4 ⟨rfl, hv4⟩
                 have hw3 : Below v3.heap.size v3 v4 := Below.to hx3 hv4
                 have cn4 := (hw3.cell (p := ⟨w1.heap.size, 0, none⟩) hz3).trans cn3
                 have hz4 : w1.heap.size < v4.heap.size := Nat.lt_of_lt_of_le hz3 hw3.size
                 have B4 : Hid (Below w.heap.size w v4) := Below.to B3.out hw3
                 have S44 : Hid (Arr v4 (wb + 1 + 1 + 1 + 1) 6 CE) := S34.out.below hw3 S34.out.lt
                 clear hw3 hx3 hv4 B3)
              | (refine loadT 27 6 Try.size27 Try.row27 (by rfl) _ (by rfl) (wb + 1 + 1 + 1 + 1) (by rfl) (bools 6 CE) S44.out.range (bools_len _ _) ?_; rw [bools6])
              | (go_at_call_of 13 (Value.agg (six CE)); refine (o5 _).mono ?_; rintro e x4 ⟨rfl, hx4⟩)
              | (go_at_call_of 12 (Value.string Y4); refine (t5 _).mono ?_; rintro e v5 ⟨rfl, hv5⟩
                 have hw4 : Below v4.heap.size v4 v5 := Below.to hx4 hv5
                 have cn5 := (hw4.cell (p := ⟨w1.heap.size, 0, none⟩) hz4).trans cn4
                 have hz5 : w1.heap.size < v5.heap.size := Nat.lt_of_lt_of_le hz4 hw4.size
                 have B5 : Hid (Below w.heap.size w v5) := Below.to B4.out hw4
                 clear hw4 hx4 hv5 B4))
            go_ret
            exact ⟨rfl, B5.out⟩

end Go.Proofs.Ytcfbfdjmcabnkaa

