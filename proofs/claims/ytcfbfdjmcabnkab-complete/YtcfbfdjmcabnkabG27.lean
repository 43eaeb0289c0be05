import Derived.Test.YtcfbfdjmcabnkabGR6
import Derived.Test.YtcfbfdjmcabnkabG16
namespace Go.Proofs.Ytcfbfdjmcabnkab
open Go.RowKit Fw
open Go.Deep (BT)
set_option linter.unusedVariables false

/-- P9 -/
theorem rpl_sound {g f s c : ByteArray} {n : Int} (h : (rpl g f s n c).1 = true) : (rpl g f s n c).2 = 0 ∧ flt g f s = 0 ∧ ∃ st : Nat, n = (st : Int) ∧ st < (gphOf g).n ∧ holdsB (gphOf g) (fsOf f) (treeOf s) st = true := by
  unfold rpl at h ⊢
  by_cases hc : c.size ≤ 4000000
  · rw [if_neg (by omega)] at h ⊢
    by_cases hl : lat g f s n = 0
    · rw [if_neg (by omega)] at h ⊢
      refine ⟨rfl, ?_⟩
      unfold lat at hl
      by_cases h0 : flt g f s = 0
      · rw [if_neg (by omega)] at hl
        by_cases hn : n < 0 ∨ ((gphOf g).n : Int) ≤ n
        · rw [if_pos hn] at hl; omega
        · rw [if_neg hn] at hl
          by_cases hA : anyT (push (treeOf s) false) = true
          · rw [if_pos hA] at hl; omega
          · refine ⟨h0, n.toNat, by omega, by omega, ?_⟩
            obtain ⟨hg, hs, hck, hfo, hfr⟩ := flt_zero h0
            have hgd := (frm_zero hfr).2
            have hsh : shw (pushT (treeOf s) false) := push_shw _ hgd false (fun c hc h => hA ((anyT_iff _).2 ⟨c, hc, h⟩))
            have hrp := of_decide_eq_true h
            have h1 := rep_sound _ hsh _ _ _ hrp
            rw [(pushT_sat _ hgd _).1] at h1
            exact (holdsB_iff (gph_ok hck) _ hgd _ (by omega)).2 h1
      · rw [if_pos (by omega)] at hl; omega
    · rw [if_pos (by omega)] at h
      cases h
  · rw [if_pos hc] at h
    cases h

theorem rex1 : rpl ⟨#[112, 62, 48, 49, 59, 113, 62, 50, 59, 62, 48, 59]⟩ ⟨#[113]⟩ ⟨#[69, 91, 112, 85, 113, 93]⟩ 0 ⟨#[91, 40, 48, 49, 50, 41, 93, 44, 46, 45, 46]⟩ = (true, 0) := by kernel_rfl
theorem rex2 : rpl ⟨#[112, 62, 48, 49, 59, 113, 62, 50, 59, 62, 48, 59]⟩ ⟨#[]⟩ ⟨#[69, 91, 33, 84, 82, 112, 93]⟩ 0 ⟨#[91, 48, 40, 48, 41, 93, 44, 46, 111]⟩ = (false, 0) := by kernel_rfl

theorem rex1_is (w : World) : Calls Try.prog 10 #[.string ⟨#[112, 62, 48, 49, 59, 113, 62, 50, 59, 62, 48, 59]⟩, .string ⟨#[113]⟩, .string ⟨#[69, 91, 112, 85, 113, 93]⟩, .int .i64 0, .string ⟨#[91, 40, 48, 49, 50, 41, 93, 44, 46, 45, 46]⟩] w fun e w' => e = .returned (.tuple #[.bool true, .int .i64 0]) ∧ Below w.heap.size w w' := by
  have := replay_all ⟨#[112, 62, 48, 49, 59, 113, 62, 50, 59, 62, 48, 59]⟩ ⟨#[113]⟩ ⟨#[69, 91, 112, 85, 113, 93]⟩ 0 ⟨#[91, 40, 48, 49, 50, 41, 93, 44, 46, 45, 46]⟩ w (by decide)
  rw [rex1] at this
  exact this
theorem rex2_is (w : World) : Calls Try.prog 10 #[.string ⟨#[112, 62, 48, 49, 59, 113, 62, 50, 59, 62, 48, 59]⟩, .string ⟨#[]⟩, .string ⟨#[69, 91, 33, 84, 82, 112, 93]⟩, .int .i64 0, .string ⟨#[91, 48, 40, 48, 41, 93, 44, 46, 111]⟩] w fun e w' => e = .returned (.tuple #[.bool false, .int .i64 0]) ∧ Below w.heap.size w w' := by
  have := replay_all ⟨#[112, 62, 48, 49, 59, 113, 62, 50, 59, 62, 48, 59]⟩ ⟨#[]⟩ ⟨#[69, 91, 33, 84, 82, 112, 93]⟩ 0 ⟨#[91, 48, 40, 48, 41, 93, 44, 46, 111]⟩ w (by decide)
  rw [rex2] at this
  exact this

set_option maxRecDepth 100000 in
set_option maxHeartbeats 1000000 in
theorem replays_yes (w : World) : Calls Try.prog 5 #[] w fun e w' => e = .returned (.bool true) ∧ Below w.heap.size w w' := by
  go_enter Try.func5, Try.ntmps5
  go_wp2_with fail
  refine (rex1_is _).mono ?_
  rintro e w1 ⟨rfl, hb1⟩
  go_wp2_with fail
  refine (rex2_is _).mono ?_
  rintro e w2 ⟨rfl, hb2⟩
  go_wp2_with fail
  go_ret
  exact ⟨rfl, Below.to hb1 hb2⟩

end Go.Proofs.Ytcfbfdjmcabnkab

