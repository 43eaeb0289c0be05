import Derived.Test.YtcfbfdjmcabnkaaGR6
import Derived.Test.YtcfbfdjmcabnkaaG16
import Derived.Test.YtcfbfdjmcabnkaaG3
namespace Go.Proofs.Ytcfbfdjmcabnkaa
open Go.RowKit Fw
open Go.Deep (BT)
set_option linter.unusedVariables false

/-- P9 -/
theorem rpl_sound {g f s c : ByteArray} {n : Int} (h : (rpl g f s n c).1 = true) : (rpl g f s n c).2 = 0 ∧ flt g f s = 0 ∧ ∃ st : Nat, n = (st : Int) ∧ st < (gphOf g).n ∧ holdsB (gphOf g) (fsOf f) (treeOf s) st = true := by
  unfold rpl at h ⊢
  by_cases hc : c.size ≤ 4000000
  · rw [if_neg (by omega)] at h ⊢
    by_cases hl : lat g f s n = 0
    · rw [if_neg (by omega)] at h ⊢
      refine ⟨rfl, ?_⟩
      unfold lat at hl
      by_cases h0 : flt g f s = 0
      · rw [if_neg (by omega)] at hl
        by_cases hn : n < 0 ∨ ((gphOf g).n : Int) ≤ n
        · rw [if_pos hn] at hl; omega
        · rw [if_neg hn] at hl
          by_cases hA : anyT (push (treeOf s) false) = true
          · rw [if_pos hA] at hl; omega
          · refine ⟨h0, n.toNat, by omega, by omega, ?_⟩
            obtain ⟨hg, hs, hck, hfo, hfr⟩ := flt_zero h0
            have hgd := (frm_zero hfr).2
            have hsh : shw (pushT (treeOf s) false) := push_shw _ hgd false (fun c hc h => hA ((anyT_iff _).2 ⟨c, hc, h⟩))
            have hrp := of_decide_eq_true h
            have h1 := rep_sound _ hsh _ _ _ hrp
            rw [(pushT_sat _ hgd _).1] at h1
            exact (holdsB_iff (gph_ok hck) _ hgd _ (by omega)).2 h1
      · rw [if_pos (by omega)] at hl; omega
    · rw [if_pos (by omega)] at h
      cases h
  · rw [if_pos hc] at h
    cases h

theorem rex1 : rpl ⟨#[112, 62, 48, 49, 59, 113, 62, 50, 59, 62, 48, 59]⟩ ⟨#[113]⟩ ⟨#[69, 91, 112, 85, 113, 93]⟩ 0 ⟨#[91, 40, 48, 49, 50, 41, 93, 44, 46, 45, 46]⟩ = (true, 0) := by kernel_rfl
theorem rex2 : rpl ⟨#[112, 62, 48, 49, 59, 113, 62, 50, 59, 62, 48, 59]⟩ ⟨#[]⟩ ⟨#[69, 91, 33, 84, 82, 112, 93]⟩ 0 ⟨#[91, 48, 40, 48, 41, 93, 44, 46, 111]⟩ = (false, 0) := by kernel_rfl

theorem rex1_is (w : World) : Calls Try.prog 25 #[.string ⟨#[112, 62, 48, 49, 59, 113, 62, 50, 59, 62, 48, 59]⟩, .string ⟨#[113]⟩, .string ⟨#[69, 91, 112, 85, 113, 93]⟩, .int .i64 0, .string ⟨#[91, 40, 48, 49, 50, 41, 93, 44, 46, 45, 46]⟩] w fun e w' => e = .returned (.tuple #[.bool true, .int .i64 0]) ∧ Below w.heap.size w w' := by
  have := replay_all ⟨#[112, 62, 48, 49, 59, 113, 62, 50, 59, 62, 48, 59]⟩ ⟨#[113]⟩ ⟨#[69, 91, 112, 85, 113, 93]⟩ 0 ⟨#[91, 40, 48, 49, 50, 41, 93, 44, 46, 45, 46]⟩ w (by decide)
  rw [rex1] at this
  exact this
theorem rex2_is (w : World) : Calls Try.prog 25 #[.string ⟨#[112, 62, 48, 49, 59, 113, 62, 50, 59, 62, 48, 59]⟩, .string ⟨#[]⟩, .string ⟨#[69, 91, 33, 84, 82, 112, 93]⟩, .int .i64 0, .string ⟨#[91, 48, 40, 48, 41, 93, 44, 46, 111]⟩] w fun e w' => e = .returned (.tuple #[.bool false, .int .i64 0]) ∧ Below w.heap.size w w' := by
  have := replay_all ⟨#[112, 62, 48, 49, 59, 113, 62, 50, 59, 62, 48, 59]⟩ ⟨#[]⟩ ⟨#[69, 91, 33, 84, 82, 112, 93]⟩ 0 ⟨#[91, 48, 40, 48, 41, 93, 44, 46, 111]⟩ w (by decide)
  rw [rex2] at this
  exact this

set_option maxRecDepth 100000 in
set_option maxHeartbeats 1000000 in
theorem replays_yes (w : World) : Calls Try.prog 24 #[] w fun e w' => e = .returned (.bool true) ∧ Below w.heap.size w w' := by
  go_enter Try.func24, Try.ntmps24
  go_wp2_with fail
  refine (rex1_is _).mono ?_
  rintro e w1 ⟨rfl, hb1⟩
  go_wp2_with fail
  refine (rex2_is _).mono ?_
  rintro e w2 ⟨rfl, hb2⟩
  go_wp2_with fail
  go_ret
  exact ⟨rfl, Below.to hb1 hb2⟩

set_option maxRecDepth 100000 in
set_option maxHeartbeats 2000000 in
theorem sound_walk (g f s : ByteArray) (n : Int) (c : ByteArray) (w : World) (hf : f.size ≤ 9223372036854775807) :
    Calls Try.prog 9 #[.string g, .string f, .string s, .int .i64 n, .string c] w fun e w' => e = .returned (.bool true) ∧ Below w.heap.size w w' := by
  have HRA := fun W => replay_all g f s n c W hf
  have HSA := fun W => solve_all g f s W hf
  cases hb : (rpl g f s n c).1 with
  | false =>
    rw [hb] at HRA
    obtain ⟨E, hE⟩ : ∃ E, E = (rpl g f s n c).2 := ⟨_, rfl⟩
    rw [← hE] at HRA
    clear hE hb HSA
    go_enter Try.func9, Try.ntmps9
    go_wp2_with fail
    refine (awake_yes _).mono ?_
    rintro e w1 ⟨rfl, hb1⟩
    go_wp2_with fail
    refine (replays_yes _).mono ?_
    rintro e w2 ⟨rfl, hb2⟩
    go_wp2_with fail
    refine (HRA _).mono ?_
    rintro e w3 ⟨rfl, hb3⟩
    go_wp2_with fail
    go_ret
    exact ⟨rfl, Below.to (Below.to hb1 hb2) hb3⟩
  | true =>
    obtain ⟨h2, h0, st, rfl, hst, hh⟩ := rpl_sound hb
    rw [hb, h2] at HRA
    rw [sol_zero h0] at HSA
    obtain ⟨X, hX⟩ : ∃ X, X = bs (bitsU (holdsB (gphOf g) (fsOf f) (treeOf s)) (gphOf g).n) := ⟨_, rfl⟩
    have hsz : X.size = (gphOf g).n := by rw [hX]; show (bitsU _ _).toArray.size = _; simp [bitsU_len]
    have hlt : st < X.size := by omega
    have hat := bits_at _ _ st X hX hlt
    rw [if_pos hh] at hat
    rw [← hX] at HSA
    have hlt2 : (st : Int) < (X.size : Int) := by omega
    have st0 : (0 : Int) ≤ (st : Int) := by omega
    have hn6 : X.size ≤ 1000 := by
      obtain ⟨hg, _⟩ := flt_zero h0
      have : (gphOf g).n ≤ 6 := (run_starts g 6 0 (by omega)).1
      omega
    clear hX hb h2 h0 hh hst hsz
    go_enter Try.func9, Try.ntmps9
    go_wp2_with fail
    refine (awake_yes _).mono ?_
    rintro e w1 ⟨rfl, hb1⟩
    go_wp2_with fail
    refine (replays_yes _).mono ?_
    rintro e w2 ⟨rfl, hb2⟩
    go_wp2_with fail
    refine (HRA _).mono ?_
    rintro e w3 ⟨rfl, hb3⟩
    go_wp2_with fail
    refine (HSA _).mono ?_
    rintro e w4 ⟨rfl, hb4⟩
    go_wp2_with fail
    go_ret
    exact ⟨by rfl, Below.to (Below.to (Below.to hb1 hb2) hb3) hb4⟩

end Go.Proofs.Ytcfbfdjmcabnkaa

namespace Go.Proofs.Ytcfbfdjmcabnkaa
open Go.ChangeShapes Go.WideShapes Go.ChangeAt Go.RowKit Go.Deep
open Go.ChangeMaps (open_string shut_string)
set_option linter.unusedVariables false

set_option maxRecDepth 100000 in
theorem sound_lifted (os : Os) (started : os.Started) (H : Type) (enc : TypeId × Value → H) :
    ReturnsInHanded {} Try.checked os 9 .any (Rows.soundSpec.pre6 enc Try.prog Try.f9 Rows.soundRow.domain false) (Rows.soundSpec.post enc Try.prog Try.f9 false true false false) := by
  refine returnsInHanded_of_change (C := Try.checked) own started (by kernel_rfl) Try.func9
    (ChangeSpec.witness6 (enc := enc) (C := Try.checked) false ⟨#[], #[.string ByteArray.empty, .string ByteArray.empty, .string ByteArray.empty, .int .i64 0, .string ByteArray.empty], []⟩ 8 (by kernel_rfl) (by kernel_rfl) (by kernel_rfl) (by kernel_rfl)) ?_
  intro W base args ds gs before hval0 hW hcnd _
  have hval : ∀ (j : Nat) t v, Try.f9.params[j]? = some t → args[j]? = some v → Value.okWide Try.prog W .any base t v := hval0
  have hW' := hW
  obtain ⟨p, q, hA0, hV, rfl, hfz, hnd⟩ := hW
  have hA : DataW.TrodAll enc Try.prog W 0 (fun _ => true) true Try.f9.params.toList args.toList ds p := hA0
  rw [Try.params9] at hA hval
  obtain ⟨v0, vs0, d0, ds0, p0, q0, hargs0, rfl, rfl, h0, r0⟩ := trodAll_cons hA
  obtain ⟨v1, vs1, d1, ds1, p1, q1, hargs1, rfl, rfl, h1, r1⟩ := trodAll_cons r0
  obtain ⟨v2, vs2, d2, ds2, p2, q2, hargs2, rfl, rfl, h2, r2⟩ := trodAll_cons r1
  obtain ⟨v3, vs3, d3, ds3, p3, q3, hargs3, rfl, rfl, h3, r3⟩ := trodAll_cons r2
  obtain ⟨v4, vs4, d4, ds4, p4, q4, hargs4, rfl, rfl, h4, r4⟩ := trodAll_cons r3
  obtain ⟨rfl, rfl, rfl⟩ := trodAll_nil r4
  obtain rfl : args = #[v0, v1, v2, v3, v4] := by cases args; simp_all
  obtain ⟨rfl, rfl⟩ := trodVars_none hV
  obtain ⟨xa, rfl, rfl, rfl, w0⟩ := open_string Try.underlying9 (hval 0 9 v0 rfl rfl) h0
  obtain ⟨xb, rfl, rfl, rfl, w1⟩ := open_string Try.underlying9 (hval 1 9 v1 rfl rfl) h1
  obtain ⟨xc, rfl, rfl, rfl, w2⟩ := open_string Try.underlying9 (hval 2 9 v2 rfl rfl) h2
  obtain ⟨xn, rfl, rfl, rfl, w3⟩ := open_int Try.underlying3 (hval 3 3 v3 rfl rfl) h3
  obtain ⟨xd, rfl, rfl, rfl, w4⟩ := open_string Try.underlying9 (hval 4 9 v4 rfl rfl) h4
  clear hA0 hval0
  refine (sound_walk xa xb xc xn xd W (by simpa [maxLen] using w1)).mono fun e W' ⟨he, bel⟩ => ?_
  subst he
  exact ⟨_, rfl, _, _, _, [], _, [], hW', trodAll_mk1 (shut_bool Try.underlying4 _), (trodAll_cons_mk (shut_string Try.underlying9 w0) (trodAll_cons_mk (shut_string Try.underlying9 w1) (trodAll_cons_mk (shut_string Try.underlying9 w2) (trodAll_cons_mk (shut_int Try.underlying3 w3) (trodAll_cons_mk (shut_string Try.underlying9 w4) trodAll_mk0))))), rfl, bel.frame _, fun h => by cases h⟩

theorem sound_holds : Rows.SoundSaid :=
  OpenClaim.holds_of_wide 9 Try.f9 rfl rfl rfl rfl rfl rfl rfl ⟨rfl, rfl, rfl, rfl, rfl⟩ rfl rfl rfl rfl rfl (by kernel_rfl) Try.func9 (by kernel_rfl)
    (of_decide_eq_true (by kernel_rfl)) (by unfold Func.isWrapper; first | (rw [if_pos (by decide +kernel)]; kernel_rfl) | (rw [if_neg (by decide +kernel)]; exact ⟨rfl, rfl⟩))
    (fun os started H enc _ => sound_lifted os started H enc)
#print axioms sound_holds
end Go.Proofs.Ytcfbfdjmcabnkaa

