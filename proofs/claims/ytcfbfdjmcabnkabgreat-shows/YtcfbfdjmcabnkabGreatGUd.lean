import Derived.Deep.RegionHeld3
import Derived.Test.YtcfbfdjmcabnkabGreatGUb
import Derived.Test.YtcfbfdjmcabnkabGreatG5
import Derived.Test.YtcfbfdjmcabnkabGreatG3
import Derived.Test.YtcfbfdjmcabnkabGreatGE
import Derived.Test.YtcfbfdjmcabnkabGreatGPu
import Derived.Test.YtcfbfdjmcabnkabGreatGL
import Derived.Test.YtcfbfdjmcabnkabGreatGW
set_option maxRecDepth 100000
set_option maxHeartbeats 1000000
namespace Go.Proofs.YtcfbfdjmcabnkabGreat
open Go.RowKit Fw
open Go.Deep (BT)
set_option linter.unusedVariables false
def ShowIs : Prop := ∀ (g f s : ByteArray) (n : Int) (W : World), f.size <= 9223372036854775807 -> Calls Tryz.prog 18 #[.string g, .string f, .string s, .int .i64 n] W fun e w' => ∃ (X : ByteArray) (E : Nat), e = .returned (.tuple #[.string X, .int .i64 (E : Int)]) ∧ ShOk g f s n X E ∧ Below W.heap.size W w'
theorem plays_show (HSI : ShowIs) (n : Int) (g f s c : ByteArray) (w : World) (hf : f.size ≤ 9223372036854775807) :
   Calls Tryz.prog 6 #[.agg #[.int .i64 6, .int .i64 n, .string g, .string f, .string s, .string c]] w fun e w' => e = .returned (.bool true) ∧ Below w.heap.size w w' := by
 have HP := fun W => HSI g f s n W hf
 have HR : ∀ (X : ByteArray) (E : Nat) (W : World), Hid (ShOk g f s n X E) -> Calls Tryz.prog 19 #[.string g, .string f, .string s, .int .i64 n, .string X, .int .i64 (E : Int)] W fun e w' => e = .returned (.bool true) ∧ Below W.heap.size W w' := fun X E W h => shown_all g f s n X E W hf h.out
 clear HSI
 go_enter Tryz.func6, Tryz.ntmps6
 go_wp2_with fail
 refine (HP _).mono ?_
 rintro e w1 ⟨X, E, rfl, hok, hb1⟩
 have HOK : Hid (ShOk g f s n X E) := hok
 clear hok
 have hsz := hb1.size
 have hn : w1.cell? ⟨w.heap.size, 1, none⟩ = some (.int .i64 n) := by rw [hb1.cell (p := ⟨w.heap.size, 1, none⟩) (by simp)]; simp
 have hg : w1.cell? ⟨w.heap.size, 2, none⟩ = some (.string g) := by rw [hb1.cell (p := ⟨w.heap.size, 2, none⟩) (by simp)]; simp
 have hf : w1.cell? ⟨w.heap.size, 3, none⟩ = some (.string f) := by rw [hb1.cell (p := ⟨w.heap.size, 3, none⟩) (by simp)]; simp
 have hs : w1.cell? ⟨w.heap.size, 4, none⟩ = some (.string s) := by rw [hb1.cell (p := ⟨w.heap.size, 4, none⟩) (by simp)]; simp
 have HB1 : Hid (Below w.heap.size w w1) := ((Below.refl _ _).alloc (Nat.le_refl _) _).trans (hb1.mono (by simp))
 clear hb1 HP
 have hwz : w.heap.size < w1.heap.size := by simp at hsz; omega
 clear hsz
 go_wp2_with fail
 go_region_held3 (fun w' => w'.cell? ⟨w.heap.size, 1, none⟩ = some (.int .i64 n) ∧ w'.cell? ⟨w.heap.size, 2, none⟩ = some (.string g) ∧ w'.cell? ⟨w.heap.size, 3, none⟩ = some (.string f) ∧ w'.cell? ⟨w.heap.size, 4, none⟩ = some (.string s)) (first
     | exact ⟨hn, hg, hf, hs⟩
     | exact ⟨jn, jg, jf, js⟩) (first
   | (go_at_call 9; refine (num_anyY _ _).mono ?_; rintro e w3 ⟨rfl, rfl⟩)
   | (go_at_call 19; refine (HR X E _ HOK).mono ?_; rintro e w4 ⟨rfl, hb4⟩
      have jn : w4.cell? ⟨w.heap.size, 1, none⟩ = some (.int .i64 n) := (hb4.cell (p := ⟨w.heap.size, 1, none⟩) (by simpa using hwz)).trans hn
      have jg : w4.cell? ⟨w.heap.size, 2, none⟩ = some (.string g) := (hb4.cell (p := ⟨w.heap.size, 2, none⟩) (by simpa using hwz)).trans hg
      have jf : w4.cell? ⟨w.heap.size, 3, none⟩ = some (.string f) := (hb4.cell (p := ⟨w.heap.size, 3, none⟩) (by simpa using hwz)).trans hf
      have js : w4.cell? ⟨w.heap.size, 4, none⟩ = some (.string s) := (hb4.cell (p := ⟨w.heap.size, 4, none⟩) (by simpa using hwz)).trans hs
      have HB4 : Hid (Below w.heap.size w w4) := HB1.out.drew.trans (hb4.mono (by simpa using HB1.out.size))
      clear hb4))
 all_goals
   go_wp2_with fail
   go_ret
   exact ⟨rfl, HB4.out⟩
theorem plays6 (HSI : ShowIs) : PlaysAll 6 6 := by
 intro k n g f s c w h1 h2 _ _ hf _ _
 obtain rfl : k = 6 := by omega
 exact plays_show HSI n g f s c w (by simpa [maxLen] using hf)
end Go.Proofs.YtcfbfdjmcabnkabGreat
namespace Go.Proofs.YtcfbfdjmcabnkabGreat
open Go.RowKit Fw
set_option linter.unusedVariables false
theorem plays16 (HSI : ShowIs) : PlaysAll 1 6 := by
 intro k n g f s c w h1 h2 a1 a2 a3 a4 a5
 have hk : k = 1 ∨ k = 2 ∨ k = 3 ∨ k = 4 ∨ k = 5 ∨ k = 6 := by omega
 rcases hk with rfl | rfl | rfl | rfl | rfl | rfl
 · exact plays_check n g f s c w
 · exact plays2 2 n g f s c w (by omega) (by omega) a1 a2 a3 a4 a5
 · exact plays3 3 n g f s c w (by omega) (by omega) a1 a2 a3 a4 a5
 · exact plays4 4 n g f s c w (by omega) (by omega) a1 a2 a3 a4 a5
 · exact plays5 5 n g f s c w (by omega) (by omega) a1 a2 a3 a4 a5
 · exact plays6 HSI 6 n g f s c w (by omega) (by omega) a1 a2 a3 a4 a5
end Go.Proofs.YtcfbfdjmcabnkabGreat
