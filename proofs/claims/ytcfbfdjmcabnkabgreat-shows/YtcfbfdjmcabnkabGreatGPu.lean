import Derived.Test.YtcfbfdjmcabnkabGreatG12
import Derived.Test.YtcfbfdjmcabnkabGreatG3
set_option maxRecDepth 100000
set_option maxHeartbeats 1000000
namespace Go.Proofs.YtcfbfdjmcabnkabGreat
open Go.RowKit Fw
open Go.Deep (BT)
set_option linter.unusedVariables false
theorem plays_solve (n : Int) (g f s c : ByteArray) (w : World) (hf : f.size <= 9223372036854775807) :
   Calls Tryz.prog 6 #[.agg #[.int .i64 4, .int .i64 n, .string g, .string f, .string s, .string c]] w fun e w' => e = .returned (.bool true) ∧ Below w.heap.size w w' := by
 have HP := fun W => solve_all g f s W hf
 have HR := fun W => refSolve_any g f s W hf
 obtain ⟨X, hX⟩ : ∃ X, X = (sol g f s).1 := ⟨_, rfl⟩
 obtain ⟨E, hE⟩ : ∃ E, E = (sol g f s).2 := ⟨_, rfl⟩
 rw [<- hX, <- hE] at HP HR
 clear hX hE
 go_enter Tryz.func6, Tryz.ntmps6
 go_wp2_with fail
 refine (HP _).mono ?_
 rintro e w1 ⟨rfl, hb1⟩
 have hsz := hb1.size
 have hg : w1.cell? ⟨w.heap.size, 2, none⟩ = some (.string g) := by rw [hb1.cell (p := ⟨w.heap.size, 2, none⟩) (by simp)]; simp
 have hf : w1.cell? ⟨w.heap.size, 3, none⟩ = some (.string f) := by rw [hb1.cell (p := ⟨w.heap.size, 3, none⟩) (by simp)]; simp
 have hs : w1.cell? ⟨w.heap.size, 4, none⟩ = some (.string s) := by rw [hb1.cell (p := ⟨w.heap.size, 4, none⟩) (by simp)]; simp
 go_wp2_with fail
 refine (HR _).mono ?_
 rintro e w2 ⟨rfl, hb2⟩
 have h1 := bytes_beq X
 have h2 : ((E : Int) == (E : Int)) = true := by simp
 go_wp2_with (go_at_call 9; refine (num_anyY _ _).mono ?_; rintro e w3 ⟨rfl, rfl⟩)
 go_ret
 exact ⟨by simp, (((Below.refl _ _).alloc (Nat.le_refl _) _).trans (hb1.mono (by simp))).trans (hb2.mono (by simp at hsz; omega))⟩
theorem plays4 : PlaysAll 4 4 := by
 intro k n g f s c w h1 h2 _ _ hf _ _
 obtain rfl : k = 4 := by omega
 exact plays_solve n g f s c w (by simpa [maxLen] using hf)
end Go.Proofs.YtcfbfdjmcabnkabGreat
