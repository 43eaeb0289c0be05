import Derived.Test.YtcfbfdjmcabnkaaGreatG12
import Derived.Test.YtcfbfdjmcabnkaaGreatG3
namespace Go.Proofs.YtcfbfdjmcabnkaaGreat
open Go.RowKit Fw
open Go.Deep (BT)
set_option linter.unusedVariables false

set_option maxRecDepth 100000 in
set_option maxHeartbeats 1000000 in
theorem plays_solve (n : Int) (g f s c : ByteArray) (w : World) (hf : f.size ≤ 9223372036854775807) :
    Calls Tryz.prog 9 #[.agg #[.int .i64 4, .int .i64 n, .string g, .string f, .string s, .string c]] w fun e w' => e = .returned (.bool true) ∧ Below w.heap.size w w' := by
  have HP := fun W => solve_all g f s W hf
  have HR := fun W => refSolve_any g f s W hf
  obtain ⟨X, hX⟩ : ∃ X, X = (sol g f s).1 := ⟨_, rfl⟩
  obtain ⟨E, hE⟩ : ∃ E, E = (sol g f s).2 := ⟨_, rfl⟩
  rw [← hX, ← hE] at HP HR
  clear hX hE
  go_enter Tryz.func9, Tryz.ntmps9
  go_wp2_with fail
  refine (HP _).mono ?_
  rintro e w1 ⟨rfl, hb1⟩
  have hsz := hb1.size
  have hg : w1.cell? ⟨w.heap.size, 2, none⟩ = some (.string g) := by rw [hb1.cell (p := ⟨w.heap.size, 2, none⟩) (by simp)]; simp
  have hf : w1.cell? ⟨w.heap.size, 3, none⟩ = some (.string f) := by rw [hb1.cell (p := ⟨w.heap.size, 3, none⟩) (by simp)]; simp
  have hs : w1.cell? ⟨w.heap.size, 4, none⟩ = some (.string s) := by rw [hb1.cell (p := ⟨w.heap.size, 4, none⟩) (by simp)]; simp
  go_wp2_with fail
  refine (HR _).mono ?_
  rintro e w2 ⟨rfl, hb2⟩
  have h1 := bytes_beq X
  have h2 : ((E : Int) == (E : Int)) = true := by simp
  go_wp2_with (go_at_call 12; refine (num_anyY _ _).mono ?_; rintro e w3 ⟨rfl, rfl⟩)
  go_ret
  exact ⟨by simp, (((Below.refl _ _).alloc (Nat.le_refl _) _).trans (hb1.mono (by simp))).trans (hb2.mono (by simp at hsz; omega))⟩

theorem plays4 : PlaysAll 4 4 := by
  intro k n g f s c w h1 h2 _ _ hf _ _
  obtain rfl : k = 4 := by omega
  exact plays_solve n g f s c w (by simpa [maxLen] using hf)

set_option maxRecDepth 100000 in
set_option maxHeartbeats 1000000 in
theorem solves_walk (hp : PlaysAll 4 4) (a : Option Addr) (len cap : Nat) (w : World) (HO : Hid (IsOps w a len cap)) :
    Calls Tryz.prog 6 #[.slice a len cap] w fun e w' => e = .returned (.bool true) ∧ Below w.heap.size w w' := by
  go_enter Tryz.func6, Tryz.ntmps6
  go_wp2_with fail
  refine (upTo_any 4 4 hp a len cap _ HO).mono ?_
  rintro e w1 ⟨rfl, hb⟩
  go_wp2_with fail
  go_ret
  exact ⟨rfl, hb⟩

end Go.Proofs.YtcfbfdjmcabnkaaGreat

namespace Go.Proofs.YtcfbfdjmcabnkaaGreat
open Go.ChangeShapes Go.WideShapes Go.ChangeAt Go.RowKit Go.Deep
open Go.ChangeMaps (open_string shut_string)
set_option linter.unusedVariables false

set_option maxRecDepth 100000 in
theorem solves_lifted (os : Os) (started : os.Started) (H : Type) (enc : TypeId × Value → H) :
    ReturnsInHanded {} Tryz.checked os 6 .any (Rows.solvesSpec.pre6 enc Tryz.prog Tryz.f6 Rows.solvesRow.domain false) (Rows.solvesSpec.post enc Tryz.prog Tryz.f6 false true false false) := by
  refine returnsInHanded_of_change (C := Tryz.checked) own started (by kernel_rfl) Tryz.func6
    (ChangeSpec.witness6 (enc := enc) (C := Tryz.checked) false ⟨#[], #[.slice none 0 0], []⟩ 8 (by kernel_rfl) (by kernel_rfl) (by kernel_rfl) (by kernel_rfl)) ?_
  intro W base args ds gs before hval0 hW hcnd _
  have hval : ∀ (j : Nat) t v, Tryz.f6.params[j]? = some t → args[j]? = some v → Value.okWide Tryz.prog W .any base t v := hval0
  have hW' := hW
  obtain ⟨p, q, hA0, hV, rfl, hfz, hnd⟩ := hW
  have hA : DataW.TrodAll enc Tryz.prog W 0 (fun _ => true) true Tryz.f6.params.toList args.toList ds p := hA0
  rw [Tryz.params6] at hA hval
  obtain ⟨v0, vs0, d0, ds0, p0, q0, hargs, rfl, rfl, h0, r0⟩ := trodAll_cons hA
  obtain ⟨rfl, rfl, rfl⟩ := trodAll_nil r0
  obtain rfl : args = #[v0] := by cases args; simp_all
  obtain ⟨rfl, rfl⟩ := trodVars_none hV
  obtain ⟨a0, len0, cap0, rfl⟩ := okWide_slice Tryz.underlying22 (hval 0 22 v0 rfl rfl)
  have k0 := h0
  have lt0 : ∀ x ∈ p0, x.block < W.heap.size := by obtain ⟨m, hm⟩ := k0; exact DataW.trod_lt m _ _ _ hm
  have HO : Hid (IsOps W a0 len0 cap0) := by
    obtain ⟨fuel, hf⟩ := h0
    exact ops_open (by simpa [Value.cells] using hf) lt0
  clear hA0 hval0
  refine (solves_walk plays4 a0 len0 cap0 W HO).mono fun e W' ⟨he, bel⟩ => ?_
  subst he
  exact ⟨_, rfl, _, _, _, [], _, [], hW', trodAll_mk1 (shut_bool Tryz.underlying4 _), (trodAll_cons_mk (Below.trod laidOut (by kernel_rfl) (of_decide_eq_true (by kernel_rfl)) k0 bel lt0) trodAll_mk0), rfl, bel.frame _, fun h => by cases h⟩

theorem solves_holds : Rows.SolvesSaid :=
  OpenClaim.holds_of_wide 6 Tryz.f6 rfl rfl rfl rfl rfl rfl rfl ⟨rfl, rfl, rfl, rfl, rfl⟩ rfl rfl rfl rfl rfl (by kernel_rfl) Tryz.func6 (by kernel_rfl)
    (of_decide_eq_true (by kernel_rfl)) (by unfold Func.isWrapper; first | (rw [if_pos (by decide +kernel)]; kernel_rfl) | (rw [if_neg (by decide +kernel)]; exact ⟨rfl, rfl⟩))
    (fun os started H enc _ => solves_lifted os started H enc)
#print axioms solves_holds
end Go.Proofs.YtcfbfdjmcabnkaaGreat

