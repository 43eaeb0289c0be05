import Derived.Test.YtcfbfdjmcabnkaaG20
import Derived.Test.YtcfbfdjmcabnkaaG14
namespace Go.Proofs.Ytcfbfdjmcabnkaa
open Go.RowKit Fw
open Go.Deep (BT)
set_option linter.unusedVariables false

/-- what walking round tells -/
def goes (n : Nat) (mk : Nat → Nat → Bool) (round : Bool) (i : Nat) : Bool := wk (fun k => mk ((i + k) % n) 0) (fun k => mk ((i + k) % n) 1) round n 0

theorem ring_sols {s f : ByteArray} {mk ed : Nat → Nat → Bool} {n : Nat} (h0 : 0 < n) (hn : n ≤ 6) (h : s.data.toList = rowsT mk ed n n 0) (he : ∀ i j, i < n → j < n → ed i j = decide (j = (i + 1) % n)) (hf : fairOk f = true) (lives : Bool)
    (hl : lives = true ↔ ∀ c ∈ fsOf f, ∃ d, d < n ∧ ∃ k, k < 3 ∧ mk d k = true ∧ c = 112 + k) {U V X A B : Nat → Bool}
    (hU : ∀ i, i < n → U i = (goes n mk false i && lives)) (hV : ∀ i, i < n → V i = (goes n mk true i && lives)) (hX : ∀ i, i < n → X i = (mk ((i + 1) % n) 0 && lives))
    (hA : ∀ i, i < n → A i = (goes n mk false i || !lives)) (hB : ∀ i, i < n → B i = (goes n mk true i || !lives)) :
    sol s f ⟨#[69, 91, 112, 85, 113, 93]⟩ = (bs (bitsU U n), 0) ∧ sol s f ⟨#[69, 91, 112, 82, 113, 93]⟩ = (bs (bitsU V n), 0) ∧ sol s f ⟨#[69, 88, 112]⟩ = (bs (bitsU X n), 0) ∧ sol s f ⟨#[65, 91, 112, 85, 113, 93]⟩ = (bs (bitsU A n), 0) ∧ sol s f ⟨#[65, 91, 112, 82, 113, 93]⟩ = (bs (bitsU B n), 0) := by
  have hck := plan_chk h0 hn h
  have ok := gph_ok (show (chk s).1 = 0 by rw [hck])
  obtain ⟨_, gn, ge, gm⟩ := plan_read h0 hn h
  have ga : isAtom 112 = true ∧ ¬ (112 : Nat) = 84 := by decide
  have gb : isAtom 113 = true ∧ ¬ (113 : Nat) = 84 := by decide
  have gp : good (tP 112) := good_atom ga.1
  have gq : good (tP 113) := good_atom gb.1
  have hmp : ∀ j, j < n → (gphOf s).m j 112 = mk j 0 := by
    intro j hj
    rw [Bool.eq_iff_iff, gm j 112 hj]
    constructor
    · rintro ⟨k, hk, h1, h2⟩
      obtain rfl : k = 0 := by omega
      exact h1
    · intro h1
      exact ⟨0, by omega, h1, rfl⟩
  have hmq : ∀ j, j < n → (gphOf s).m j 113 = mk j 1 := by
    intro j hj
    rw [Bool.eq_iff_iff, gm j 113 hj]
    constructor
    · rintro ⟨k, hk, h1, h2⟩
      obtain rfl : k = 1 := by omega
      exact h1
    · intro h1
      exact ⟨1, by omega, h1, rfl⟩
  have g0 : 0 < (gphOf s).n := by rw [gn]; exact h0
  have ring : ∀ i j, i < (gphOf s).n → ((gphOf s).e i j = true ↔ j = (i + 1) % (gphOf s).n) := by
    intro i j hi
    rw [gn] at hi ⊢
    rw [ge i j hi, Bool.and_eq_true, decide_eq_true_eq]
    constructor
    · rintro ⟨hj, h1⟩
      rw [he i j hi hj, decide_eq_true_eq] at h1
      exact h1
    · intro hj
      have hjn : j < n := by rw [hj]; exact Nat.mod_lt _ h0
      exact ⟨hjn, by rw [he i j hi hjn, decide_eq_true_eq]; exact hj⟩
  have hgo : ∀ r i, wk (fun k => (gphOf s).m ((i + k) % (gphOf s).n) 112) (fun k => (gphOf s).m ((i + k) % (gphOf s).n) 113) r (gphOf s).n 0 = goes n mk r i := by
    intro r i
    rw [gn]
    unfold goes
    rw [show (fun k => (gphOf s).m ((i + k) % n) 112) = (fun k => mk ((i + k) % n) 0) from funext fun k => hmp _ (Nat.mod_lt _ h0), show (fun k => (gphOf s).m ((i + k) % n) 113) = (fun k => mk ((i + k) % n) 1) from funext fun k => hmq _ (Nat.mod_lt _ h0)]
  have live : lives = true → ∀ c ∈ fsOf f, ∃ d, d < (gphOf s).n ∧ (gphOf s).m d c = true := by
    intro h1 c hc
    obtain ⟨d, hd, hk⟩ := hl.1 h1 c hc
    exact ⟨d, by rw [gn]; exact hd, (gm d c hd).2 hk⟩
  have dead : lives = false → ∀ i, i < n → ¬ ∃ σ, FWay (gphOf s) (fsOf f) i σ := by
    intro h1 i hi
    have hnot : ¬ ∀ c ∈ fsOf f, ∃ d, d < n ∧ ∃ k, k < 3 ∧ mk d k = true ∧ c = 112 + k := by
      intro hh
      rw [hl.2 hh] at h1
      cases h1
    obtain ⟨c, hc⟩ := Classical.not_forall.1 hnot
    obtain ⟨hc1, hc2⟩ := Classical.not_imp.1 hc
    refine ring_no g0 ring (by rw [gn]; exact hi) hc1 fun d hd => ?_
    rw [gn] at hd
    cases hh : (gphOf s).m d c with
    | false => rfl
    | true => exact absurd ⟨d, hd, (gm d c hd).1 hh⟩ hc2
  have hE : ∀ (sg : Nat) (hs : sg = 85 ∨ sg = 82) (r : Bool) (hsy : ∀ i, says sg (sat (gphOf s) (fsOf f) (tP 112)) (sat (gphOf s) (fsOf f) (tP 113)) (fun k => (i + k) % (gphOf s).n) ↔ goes n mk r i = true) (i : Nat) (hi : i < n),
      (sat (gphOf s) (fsOf f) (tWay sg 69 (tP 112) (tP 113)) i ↔ (goes n mk r i && lives) = true) ∧ (sat (gphOf s) (fsOf f) (tWay sg 65 (tP 112) (tP 113)) i ↔ (goes n mk r i || !lives) = true) := by
    intro sg hs r hsy i hi
    have hi' : i < (gphOf s).n := by rw [gn]; exact hi
    rw [sat_e hs, sat_a hs]
    cases hv : lives with
    | true =>
      rw [ring_e g0 ring hi' (live hv), ring_a g0 ring hi' (live hv), hsy i]
      simp
    | false =>
      have hd := dead hv i hi
      simp only [Bool.and_false, Bool.not_false, Bool.or_true]
      exact ⟨⟨fun ⟨σ, h1, _⟩ => absurd ⟨σ, h1⟩ hd, fun h1 => by cases h1⟩, ⟨fun _ => trivial, fun _ σ h1 => absurd ⟨σ, h1⟩ hd⟩⟩
  have h85 := hE 85 (.inl rfl) false (fun i => by rw [ring_until g0 ga gb i, hgo])
  have h82 := hE 82 (.inr rfl) true (fun i => by rw [ring_release g0 ga gb i, hgo])
  refine ⟨plan_sol h0 hn h hf (t := tWay 85 69 (tP 112) (tP 113)) (good_un gp gq).1 (by rfl) (by decide) (by decide) fun i hi => ?_, plan_sol h0 hn h hf (t := tWay 82 69 (tP 112) (tP 113)) (good_un gp gq).2.1 (by rfl) (by decide) (by decide) fun i hi => ?_, plan_sol h0 hn h hf (t := tNx 69 (tP 112)) (by simp [tNx, good, gp]) (by rfl) (by decide) (by decide) fun i hi => ?_,
    plan_sol h0 hn h hf (t := tWay 85 65 (tP 112) (tP 113)) (good_un gp gq).2.2.1 (by rfl) (by decide) (by decide) fun i hi => ?_, plan_sol h0 hn h hf (t := tWay 82 65 (tP 112) (tP 113)) (good_un gp gq).2.2.2.1 (by rfl) (by decide) (by decide) fun i hi => ?_⟩
  · rw [(h85 i hi).1, hU i hi]
  · rw [(h82 i hi).1, hV i hi]
  · have hi' : i < (gphOf s).n := by rw [gn]; exact hi
    have hp : ∀ j, sat (gphOf s) (fsOf f) (tP 112) j ↔ (gphOf s).m j 112 = true := fun j => by rw [tP, sat_atom_is ga.1]; simp [ga.2]
    rw [sat_ex, hX i hi]
    cases hv : lives with
    | true =>
      rw [Bool.and_true, ← hmp _ (Nat.mod_lt _ h0)]
      constructor
      · rintro ⟨σ, h1, h2⟩
        rw [hp, ring_way g0 ring hi' h1 1, gn] at h2
        exact h2
      · intro h1
        refine ⟨_, ring_is g0 ring hi' (live hv), ?_⟩
        rw [hp, gn]
        exact h1
    | false =>
      have hd := dead hv i hi
      simp only [Bool.and_false]
      exact ⟨fun ⟨σ, h1, _⟩ => absurd ⟨σ, h1⟩ hd, fun h1 => by cases h1⟩
  · rw [(h85 i hi).2, hA i hi]
  · rw [(h82 i hi).2, hB i hi]

end Go.Proofs.Ytcfbfdjmcabnkaa

namespace Go.Proofs.Ytcfbfdjmcabnkaa
open Go.RowKit Fw
open Go.Deep (BT)
set_option linter.unusedVariables false

set_option maxRecDepth 100000 in
set_option maxHeartbeats 4000000 in
theorem walk_is (n i : Nat) (r : Bool) (mk ed : Nat → Nat → Bool) (w : World) (hn0 : 0 < n) (hn : n ≤ 6) (hi : i < n) :
    Calls Try.prog 15 #[.agg (planCells n mk ed).toArray, .int .i64 (i : Int), .bool r] w fun e w' => e = .returned (.bool (goes n mk r i)) ∧ Below w.heap.size w w' := by
  have HP0 := pl_new w n mk ed 30 _ rfl
  obtain ⟨C, hC⟩ : ∃ C, C = (planCells n mk ed).toArray := ⟨_, rfl⟩
  rw [← hC] at HP0
  rw [← hC]
  clear hC
  have HP : Hid (Pl (w.alloc (.cells C 30)) w.heap.size n mk ed) := HP0
  have HB : Hid (Below w.heap.size w (w.alloc (.cells C 30))) := below1 w _
  clear HP0
  cases r with
  | false =>
    go_enter Try.func15, Try.ntmps15
    go_wp2_with fail
    go_loopw [7] (fun q wr => ∃ k : Nat, k ≤ n ∧ q = .int .i64 k ∧ Hid (Pl wr w.heap.size n mk ed) ∧ Hid (Below w.heap.size w wr) ∧ Hid (goes n mk false i = wk (fun k => mk ((i + k) % n) 0) (fun k => mk ((i + k) % n) 1) false (n - k) k)) (fun q _ => n - (intOf q).toNat)
    case atStart => exact ⟨0, by omega, rfl, HP, HB, rfl⟩
    case round =>
      clear HP HB
      obtain ⟨k, hk, rfl, HP, HB, HG⟩ := hrel
      have cn := HP.out.cn
      by_cases hlt : k < n
      · obtain ⟨m, hm⟩ : ∃ m, m = (i + k) % n := ⟨_, rfl⟩
        have hmn : m < n := by rw [hm]; exact Nat.mod_lt _ hn0
        have e1 : ((i : Int) + (k : Int)) % (n : Int) = (m : Int) := by rw [hm]; simp
        have e2 : ((i : Int) + (k : Int)).tmod (n : Int) = (m : Int) := by rw [Int.tmod_eq_emod_of_nonneg (by omega)]; exact e1
        have HW : Hid (wk (fun k => mk ((i + k) % n) 0) (fun k => mk ((i + k) % n) 1) false (n - k) k = (if (false : Bool) = false then (if mk m 1 = true then true else if mk m 0 = false then false else wk (fun k => mk ((i + k) % n) 0) (fun k => mk ((i + k) % n) 1) false (n - (k + 1)) (k + 1)) else (if mk m 1 = false then false else if mk m 0 = true then true else wk (fun k => mk ((i + k) % n) 0) (fun k => mk ((i + k) % n) 1) false (n - (k + 1)) (k + 1)))) := by
          show _ = _
          rw [show n - k = (n - (k + 1)) + 1 from by omega, hm]
          rfl
        clear hm e1
        have wk0 : IntKind.i64.wrap ((i : Int) + (k : Int)) = (i : Int) + (k : Int) := wrap_small _ (by clear e2; omega) (by clear e2; omega)
        have m0 : (0 : Int) ≤ (m : Int) := by omega
        have m1 : (m : Int) < 6 := by omega
        have n00 : ¬ n = 0 := by omega
        have n01 : ¬ (n : Int) = 0 := by omega
        have c0 : wr.cell? ⟨w.heap.size, 1 + m * 3, none⟩ = some (.bool (mk m 0)) := HP.out.cm m 0 (by omega) (by omega)
        have c1 := HP.out.cm m 1 (by omega) (by omega)
        cases hq : mk m 1 with
        | true =>
          rw [hq] at c1
          have hw : goes n mk false i = true := by rw [HG.out, HW.out, hq]; rfl
          go_wp2_with fail
          go_ret
          exact ⟨by first | rfl | (rw [hw]; rfl), HB.out⟩
        | false =>
          rw [hq] at c1
          cases hp : mk m 0 with
          | true =>
            rw [hp] at c0
            have hw : goes n mk false i = wk (fun k => mk ((i + k) % n) 0) (fun k => mk ((i + k) % n) 1) false (n - (k + 1)) (k + 1) := by rw [HG.out, HW.out, hq, hp]; rfl
            go_wp2_with fail
            go_roundw
            case rel => exact ⟨k + 1, by omega, by go_num, HP, HB, hw⟩
            case measure => simp [intOf]; omega
          | false =>
            rw [hp] at c0
            have hw : goes n mk false i = false := by rw [HG.out, HW.out, hq, hp]; rfl
            go_wp2_with fail
            go_ret
            exact ⟨by first | rfl | (rw [hw]; rfl), HB.out⟩
      · have hw : goes n mk false i = false := by rw [HG.out, show n - k = 0 from by omega]; rfl
        go_wp2_with fail
        go_ret
        exact ⟨by first | rfl | (rw [hw]; rfl), HB.out⟩
  | true =>
    go_enter Try.func15, Try.ntmps15
    go_wp2_with fail
    go_loopw [7] (fun q wr => ∃ k : Nat, k ≤ n ∧ q = .int .i64 k ∧ Hid (Pl wr w.heap.size n mk ed) ∧ Hid (Below w.heap.size w wr) ∧ Hid (goes n mk true i = wk (fun k => mk ((i + k) % n) 0) (fun k => mk ((i + k) % n) 1) true (n - k) k)) (fun q _ => n - (intOf q).toNat)
    case atStart => exact ⟨0, by omega, rfl, HP, HB, rfl⟩
    case round =>
      clear HP HB
      obtain ⟨k, hk, rfl, HP, HB, HG⟩ := hrel
      have cn := HP.out.cn
      by_cases hlt : k < n
      · obtain ⟨m, hm⟩ : ∃ m, m = (i + k) % n := ⟨_, rfl⟩
        have hmn : m < n := by rw [hm]; exact Nat.mod_lt _ hn0
        have e1 : ((i : Int) + (k : Int)) % (n : Int) = (m : Int) := by rw [hm]; simp
        have e2 : ((i : Int) + (k : Int)).tmod (n : Int) = (m : Int) := by rw [Int.tmod_eq_emod_of_nonneg (by omega)]; exact e1
        have HW : Hid (wk (fun k => mk ((i + k) % n) 0) (fun k => mk ((i + k) % n) 1) true (n - k) k = (if (true : Bool) = false then (if mk m 1 = true then true else if mk m 0 = false then false else wk (fun k => mk ((i + k) % n) 0) (fun k => mk ((i + k) % n) 1) true (n - (k + 1)) (k + 1)) else (if mk m 1 = false then false else if mk m 0 = true then true else wk (fun k => mk ((i + k) % n) 0) (fun k => mk ((i + k) % n) 1) true (n - (k + 1)) (k + 1)))) := by
          show _ = _
          rw [show n - k = (n - (k + 1)) + 1 from by omega, hm]
          rfl
        clear hm e1
        have wk0 : IntKind.i64.wrap ((i : Int) + (k : Int)) = (i : Int) + (k : Int) := wrap_small _ (by clear e2; omega) (by clear e2; omega)
        have m0 : (0 : Int) ≤ (m : Int) := by omega
        have m1 : (m : Int) < 6 := by omega
        have n00 : ¬ n = 0 := by omega
        have n01 : ¬ (n : Int) = 0 := by omega
        have c0 : wr.cell? ⟨w.heap.size, 1 + m * 3, none⟩ = some (.bool (mk m 0)) := HP.out.cm m 0 (by omega) (by omega)
        have c1 := HP.out.cm m 1 (by omega) (by omega)
        cases hq : mk m 1 with
        | false =>
          rw [hq] at c1
          have hw : goes n mk true i = false := by rw [HG.out, HW.out, hq]; rfl
          go_wp2_with fail
          go_ret
          exact ⟨by first | rfl | (rw [hw]; rfl), HB.out⟩
        | true =>
          rw [hq] at c1
          cases hp : mk m 0 with
          | false =>
            rw [hp] at c0
            have hw : goes n mk true i = wk (fun k => mk ((i + k) % n) 0) (fun k => mk ((i + k) % n) 1) true (n - (k + 1)) (k + 1) := by rw [HG.out, HW.out, hq, hp]; rfl
            go_wp2_with fail
            go_roundw
            case rel => exact ⟨k + 1, by omega, by go_num, HP, HB, hw⟩
            case measure => simp [intOf]; omega
          | true =>
            rw [hp] at c0
            have hw : goes n mk true i = true := by rw [HG.out, HW.out, hq, hp]; rfl
            go_wp2_with fail
            go_ret
            exact ⟨by first | rfl | (rw [hw]; rfl), HB.out⟩
      · have hw : goes n mk true i = true := by rw [HG.out, show n - k = 0 from by omega]; rfl
        go_wp2_with fail
        go_ret
        exact ⟨by first | rfl | (rw [hw]; rfl), HB.out⟩

end Go.Proofs.Ytcfbfdjmcabnkaa

