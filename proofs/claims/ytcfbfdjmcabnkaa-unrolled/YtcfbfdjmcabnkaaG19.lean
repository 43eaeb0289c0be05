import Derived.SizedLaws
import Derived.Test.YtcfbfdjmcabnkaaG16
import Derived.Test.YtcfbfdjmcabnkaaG3
namespace Go.Proofs.Ytcfbfdjmcabnkaa
open Go.RowKit Fw
open Go.Deep (BT)
set_option linter.unusedVariables false

theorem auto_of {s : ByteArray} (h : (frm s).1 = 0) : auto [102] s.data.toList = ([], []) := by
  obtain ⟨h1, h2⟩ := frm_zero h
  rw [h1]
  have := auto_txt (treeOf s) h2 [] []
  rw [List.append_nil] at this
  rw [this]
  rfl

theorem same_EU {gr fr x y : ByteArray} {f g : List UInt8} (hx : x.data.toList = 69 :: 91 :: (f ++ 85 :: (g ++ [93]))) (hy : y.data.toList = 40 :: 40 :: (g ++ 38 :: 69 :: 88 :: 84 :: 41 :: 43 :: 40 :: (f ++ 38 :: 69 :: 88 :: 69 :: 91 :: (f ++ 85 :: (g ++ [93, 41, 41]))))) (h1 : flt gr fr x = 0) (h2 : flt gr fr y = 0) : (sol gr fr x).1 = (sol gr fr y).1 := by
  obtain ⟨hg, hs1, hck, hfo, hf1⟩ := flt_zero h1
  obtain ⟨_, hs2, _, _, hf2⟩ := flt_zero h2
  obtain ⟨a, b, ga, gb, rfl, rfl⟩ := parts_EU (by rw [← hx]; exact auto_of hf1) (by rw [← hy]; exact auto_of hf2)
  have gu := good_un ga gb
  have g1 : good (tWay 85 69 a b) := gu.1
  have g2 : good (unEU a b) := gu.2.2.2.2.1
  have e1 : x.data.toList = txt (tWay 85 69 a b) := by rw [hx, txt_w (.inl rfl)]; simp [b8]
  have e2 : y.data.toList = txt (unEU a b) := by rw [hy, txt_unEU]
  rw [sol_zero h1, sol_zero h2, (frm_txt g1 e1).2, (frm_txt g2 e2).2]
  rw [bits_congr (holdsB_same (gph_ok hck) g1 g2 fun i _ => un_eu a b i)]

theorem same_ER {gr fr x y : ByteArray} {f g : List UInt8} (hx : x.data.toList = 69 :: 91 :: (f ++ 82 :: (g ++ [93]))) (hy : y.data.toList = 40 :: (g ++ 38 :: 40 :: 40 :: (f ++ 38 :: 69 :: 88 :: 84 :: 41 :: 43 :: 69 :: 88 :: 69 :: 91 :: (f ++ 82 :: (g ++ [93, 41, 41]))))) (h1 : flt gr fr x = 0) (h2 : flt gr fr y = 0) : (sol gr fr x).1 = (sol gr fr y).1 := by
  obtain ⟨hg, hs1, hck, hfo, hf1⟩ := flt_zero h1
  obtain ⟨_, hs2, _, _, hf2⟩ := flt_zero h2
  obtain ⟨a, b, ga, gb, rfl, rfl⟩ := parts_ER (by rw [← hx]; exact auto_of hf1) (by rw [← hy]; exact auto_of hf2)
  have gu := good_un ga gb
  have g1 : good (tWay 82 69 a b) := gu.2.1
  have g2 : good (unER a b) := gu.2.2.2.2.2.1
  have e1 : x.data.toList = txt (tWay 82 69 a b) := by rw [hx, txt_w (.inr rfl)]; simp [b8]
  have e2 : y.data.toList = txt (unER a b) := by rw [hy, txt_unER]
  rw [sol_zero h1, sol_zero h2, (frm_txt g1 e1).2, (frm_txt g2 e2).2]
  rw [bits_congr (holdsB_same (gph_ok hck) g1 g2 fun i _ => un_er a b i)]

theorem same_AU {gr fr x y : ByteArray} {f g : List UInt8} (hx : x.data.toList = 65 :: 91 :: (f ++ 85 :: (g ++ [93]))) (hy : y.data.toList = 40 :: 40 :: (g ++ 43 :: 65 :: 88 :: 33 :: 84 :: 41 :: 43 :: 40 :: (f ++ 38 :: 65 :: 88 :: 65 :: 91 :: (f ++ 85 :: (g ++ [93, 41, 41]))))) (h1 : flt gr fr x = 0) (h2 : flt gr fr y = 0) : (sol gr fr x).1 = (sol gr fr y).1 := by
  obtain ⟨hg, hs1, hck, hfo, hf1⟩ := flt_zero h1
  obtain ⟨_, hs2, _, _, hf2⟩ := flt_zero h2
  obtain ⟨a, b, ga, gb, rfl, rfl⟩ := parts_AU (by rw [← hx]; exact auto_of hf1) (by rw [← hy]; exact auto_of hf2)
  have gu := good_un ga gb
  have g1 : good (tWay 85 65 a b) := gu.2.2.1
  have g2 : good (unAU a b) := gu.2.2.2.2.2.2.1
  have e1 : x.data.toList = txt (tWay 85 65 a b) := by rw [hx, txt_w (.inl rfl)]; simp [b8]
  have e2 : y.data.toList = txt (unAU a b) := by rw [hy, txt_unAU]
  rw [sol_zero h1, sol_zero h2, (frm_txt g1 e1).2, (frm_txt g2 e2).2]
  rw [bits_congr (holdsB_same (gph_ok hck) g1 g2 fun i _ => un_au a b i)]

theorem same_AR {gr fr x y : ByteArray} {f g : List UInt8} (hx : x.data.toList = 65 :: 91 :: (f ++ 82 :: (g ++ [93]))) (hy : y.data.toList = 40 :: 65 :: 88 :: 33 :: 84 :: 43 :: 40 :: (g ++ 38 :: 40 :: (f ++ 43 :: 65 :: 88 :: 65 :: 91 :: (f ++ 82 :: (g ++ [93, 41, 41, 41]))))) (h1 : flt gr fr x = 0) (h2 : flt gr fr y = 0) : (sol gr fr x).1 = (sol gr fr y).1 := by
  obtain ⟨hg, hs1, hck, hfo, hf1⟩ := flt_zero h1
  obtain ⟨_, hs2, _, _, hf2⟩ := flt_zero h2
  obtain ⟨a, b, ga, gb, rfl, rfl⟩ := parts_AR (by rw [← hx]; exact auto_of hf1) (by rw [← hy]; exact auto_of hf2)
  have gu := good_un ga gb
  have g1 : good (tWay 82 65 a b) := gu.2.2.2.1
  have g2 : good (unAR a b) := gu.2.2.2.2.2.2.2
  have e1 : x.data.toList = txt (tWay 82 65 a b) := by rw [hx, txt_w (.inr rfl)]; simp [b8]
  have e2 : y.data.toList = txt (unAR a b) := by rw [hy, txt_unAR]
  rw [sol_zero h1, sol_zero h2, (frm_txt g1 e1).2, (frm_txt g2 e2).2]
  rw [bits_congr (holdsB_same (gph_ok hck) g1 g2 fun i _ => un_ar a b i)]

set_option maxRecDepth 100000 in
set_option maxHeartbeats 1000000 in
theorem same_yes (g f a b : ByteArray) (w : World) (hf : f.size ≤ 9223372036854775807) (h : flt g f a = 0 → flt g f b = 0 → (sol g f a).1 = (sol g f b).1) :
    Calls Try.prog 22 #[.string g, .string f, .string a, .string b] w fun e w' => e = .returned (.bool true) ∧ Below w.heap.size w w' := by
  have HA := fun W => solve_all g f a W hf
  have HB := fun W => solve_all g f b W hf
  by_cases h1 : flt g f a = 0
  · by_cases h2 : flt g f b = 0
    · have e1 : (sol g f a).2 = 0 := by rw [sol_zero h1]
      have e2 : (sol g f b).2 = 0 := by rw [sol_zero h2]
      rw [e1, h h1 h2] at HA
      rw [e2] at HB
      obtain ⟨X, hX⟩ : ∃ X, X = (sol g f b).1 := ⟨_, rfl⟩
      rw [← hX] at HA HB
      have hb := bytes_same X
      clear h h1 h2 e1 e2 hX
      go_enter Try.func22, Try.ntmps22
      go_wp2_with fail
      refine (HA _).mono ?_
      rintro e w1 ⟨rfl, hb1⟩
      go_wp2_with fail
      refine (HB _).mono ?_
      rintro e w2 ⟨rfl, hb2⟩
      go_wp2_with fail
      go_ret
      exact ⟨rfl, Below.to hb1 hb2⟩
    · rw [sol_err h2] at HB
      have hne : ((flt g f b : Nat) : Int) ≠ 0 := by omega
      have e1 : (sol g f a).2 = 0 := by rw [sol_zero h1]
      rw [e1] at HA
      obtain ⟨X, hX⟩ : ∃ X, X = (sol g f a).1 := ⟨_, rfl⟩
      obtain ⟨E, hE⟩ : ∃ E, E = flt g f b := ⟨_, rfl⟩
      rw [← hX] at HA
      rw [← hE] at HB hne
      have hne' : ((E : Int) != 0) = true := by rw [bne_iff_ne]; exact hne
      clear h h1 h2 e1 hX hE hne
      go_enter Try.func22, Try.ntmps22
      go_wp2_with fail
      refine (HA _).mono ?_
      rintro e w1 ⟨rfl, hb1⟩
      go_wp2_with fail
      refine (HB _).mono ?_
      rintro e w2 ⟨rfl, hb2⟩
      go_wp2_with fail
      go_ret
      exact ⟨rfl, Below.to hb1 hb2⟩
  · rw [sol_err h1] at HA
    have hne : ((flt g f a : Nat) : Int) ≠ 0 := by omega
    obtain ⟨E, hE⟩ : ∃ E, E = flt g f a := ⟨_, rfl⟩
    obtain ⟨X, hX⟩ : ∃ X, X = (sol g f b).1 := ⟨_, rfl⟩
    obtain ⟨D, hD⟩ : ∃ D, D = (sol g f b).2 := ⟨_, rfl⟩
    rw [← hE] at HA hne
    rw [← hX, ← hD] at HB
    have hne' : ((E : Int) != 0) = true := by rw [bne_iff_ne]; exact hne
    clear h h1 hX hE hne hD
    go_enter Try.func22, Try.ntmps22
    go_wp2_with fail
    refine (HA _).mono ?_
    rintro e w1 ⟨rfl, hb1⟩
    go_wp2_with fail
    refine (HB _).mono ?_
    rintro e w2 ⟨rfl, hb2⟩
    go_wp2_with fail
    go_ret
    exact ⟨rfl, Below.to hb1 hb2⟩

end Go.Proofs.Ytcfbfdjmcabnkaa

namespace Go.Proofs.Ytcfbfdjmcabnkaa
open Go.RowKit Fw
open Go.Deep (BT)
set_option linter.unusedVariables false

set_option maxRecDepth 100000 in
set_option maxHeartbeats 4000000 in
theorem unrolled_walk (gr fr f g : ByteArray) (w : World) (hfr : fr.size ≤ 9223372036854775807) (hf : f.size ≤ 140737488351232) (hg : g.size ≤ 140737488351232) :
    Calls Try.prog 7 #[.string gr, .string fr, .string f, .string g] w fun e w' => e = .returned (.bool true) ∧ Below w.heap.size w w' := by
  have HAW := fun W => awake_yes W
  obtain ⟨c1, hc1⟩ : ∃ c1 : ByteArray, c1 = (⟨#[69, 91]⟩ : ByteArray) ++ f := ⟨_, rfl⟩
  have zc1 : c1.size ≤ 2 + f.size := by
    rw [hc1, ByteArray.size_append]
    exact Nat.le_refl _
  have rc1 : ∀ W : World, (Op.stringOp .add (⟨#[69, 91]⟩ : ByteArray) f).run Try.prog W = .ok (.string c1) W := fun W => by
    rw [hc1]
    exact run_string_add_sum (P := Try.prog) (w := W) _ _ (by
      show 2 + f.size ≤ _
      omega)
  have lc1 : c1.data.toList = [69, 91] ++ f.data.toList := by rw [hc1, ByteArray.data_append, Array.toList_append]
  obtain ⟨c2, hc2⟩ : ∃ c2 : ByteArray, c2 = c1 ++ (⟨#[85]⟩ : ByteArray) := ⟨_, rfl⟩
  have zc2 : c2.size ≤ c1.size + 1 := by
    rw [hc2, ByteArray.size_append]
    exact Nat.le_refl _
  have rc2 : ∀ W : World, (Op.stringOp .add c1 (⟨#[85]⟩ : ByteArray)).run Try.prog W = .ok (.string c2) W := fun W => by
    rw [hc2]
    exact run_string_add_sum (P := Try.prog) (w := W) _ _ (by
      show c1.size + 1 ≤ _
      omega)
  have lc2 : c2.data.toList = ([69, 91] ++ f.data.toList) ++ [85] := by rw [hc2, ByteArray.data_append, Array.toList_append, lc1]
  obtain ⟨c3, hc3⟩ : ∃ c3 : ByteArray, c3 = c2 ++ g := ⟨_, rfl⟩
  have zc3 : c3.size ≤ c2.size + g.size := by
    rw [hc3, ByteArray.size_append]
    exact Nat.le_refl _
  have rc3 : ∀ W : World, (Op.stringOp .add c2 g).run Try.prog W = .ok (.string c3) W := fun W => by
    rw [hc3]
    exact run_string_add_sum (P := Try.prog) (w := W) _ _ (by
      show c2.size + g.size ≤ _
      omega)
  have lc3 : c3.data.toList = (([69, 91] ++ f.data.toList) ++ [85]) ++ g.data.toList := by rw [hc3, ByteArray.data_append, Array.toList_append, lc2]
  obtain ⟨c4, hc4⟩ : ∃ c4 : ByteArray, c4 = c3 ++ (⟨#[93]⟩ : ByteArray) := ⟨_, rfl⟩
  have zc4 : c4.size ≤ c3.size + 1 := by
    rw [hc4, ByteArray.size_append]
    exact Nat.le_refl _
  have rc4 : ∀ W : World, (Op.stringOp .add c3 (⟨#[93]⟩ : ByteArray)).run Try.prog W = .ok (.string c4) W := fun W => by
    rw [hc4]
    exact run_string_add_sum (P := Try.prog) (w := W) _ _ (by
      show c3.size + 1 ≤ _
      omega)
  have lc4 : c4.data.toList = ((([69, 91] ++ f.data.toList) ++ [85]) ++ g.data.toList) ++ [93] := by rw [hc4, ByteArray.data_append, Array.toList_append, lc3]
  obtain ⟨c5, hc5⟩ : ∃ c5 : ByteArray, c5 = (⟨#[40, 40]⟩ : ByteArray) ++ g := ⟨_, rfl⟩
  have zc5 : c5.size ≤ 2 + g.size := by
    rw [hc5, ByteArray.size_append]
    exact Nat.le_refl _
  have rc5 : ∀ W : World, (Op.stringOp .add (⟨#[40, 40]⟩ : ByteArray) g).run Try.prog W = .ok (.string c5) W := fun W => by
    rw [hc5]
    exact run_string_add_sum (P := Try.prog) (w := W) _ _ (by
      show 2 + g.size ≤ _
      omega)
  have lc5 : c5.data.toList = [40, 40] ++ g.data.toList := by rw [hc5, ByteArray.data_append, Array.toList_append]
  obtain ⟨c6, hc6⟩ : ∃ c6 : ByteArray, c6 = c5 ++ (⟨#[38, 69, 88, 84, 41, 43, 40]⟩ : ByteArray) := ⟨_, rfl⟩
  have zc6 : c6.size ≤ c5.size + 7 := by
    rw [hc6, ByteArray.size_append]
    exact Nat.le_refl _
  have rc6 : ∀ W : World, (Op.stringOp .add c5 (⟨#[38, 69, 88, 84, 41, 43, 40]⟩ : ByteArray)).run Try.prog W = .ok (.string c6) W := fun W => by
    rw [hc6]
    exact run_string_add_sum (P := Try.prog) (w := W) _ _ (by
      show c5.size + 7 ≤ _
      omega)
  have lc6 : c6.data.toList = ([40, 40] ++ g.data.toList) ++ [38, 69, 88, 84, 41, 43, 40] := by rw [hc6, ByteArray.data_append, Array.toList_append, lc5]
  obtain ⟨c7, hc7⟩ : ∃ c7 : ByteArray, c7 = c6 ++ f := ⟨_, rfl⟩
  have zc7 : c7.size ≤ c6.size + f.size := by
    rw [hc7, ByteArray.size_append]
    exact Nat.le_refl _
  have rc7 : ∀ W : World, (Op.stringOp .add c6 f).run Try.prog W = .ok (.string c7) W := fun W => by
    rw [hc7]
    exact run_string_add_sum (P := Try.prog) (w := W) _ _ (by
      show c6.size + f.size ≤ _
      omega)
  have lc7 : c7.data.toList = (([40, 40] ++ g.data.toList) ++ [38, 69, 88, 84, 41, 43, 40]) ++ f.data.toList := by rw [hc7, ByteArray.data_append, Array.toList_append, lc6]
  obtain ⟨c8, hc8⟩ : ∃ c8 : ByteArray, c8 = c7 ++ (⟨#[38, 69, 88, 69, 91]⟩ : ByteArray) := ⟨_, rfl⟩
  have zc8 : c8.size ≤ c7.size + 5 := by
    rw [hc8, ByteArray.size_append]
    exact Nat.le_refl _
  have rc8 : ∀ W : World, (Op.stringOp .add c7 (⟨#[38, 69, 88, 69, 91]⟩ : ByteArray)).run Try.prog W = .ok (.string c8) W := fun W => by
    rw [hc8]
    exact run_string_add_sum (P := Try.prog) (w := W) _ _ (by
      show c7.size + 5 ≤ _
      omega)
  have lc8 : c8.data.toList = ((([40, 40] ++ g.data.toList) ++ [38, 69, 88, 84, 41, 43, 40]) ++ f.data.toList) ++ [38, 69, 88, 69, 91] := by rw [hc8, ByteArray.data_append, Array.toList_append, lc7]
  obtain ⟨c9, hc9⟩ : ∃ c9 : ByteArray, c9 = c8 ++ f := ⟨_, rfl⟩
  have zc9 : c9.size ≤ c8.size + f.size := by
    rw [hc9, ByteArray.size_append]
    exact Nat.le_refl _
  have rc9 : ∀ W : World, (Op.stringOp .add c8 f).run Try.prog W = .ok (.string c9) W := fun W => by
    rw [hc9]
    exact run_string_add_sum (P := Try.prog) (w := W) _ _ (by
      show c8.size + f.size ≤ _
      omega)
  have lc9 : c9.data.toList = (((([40, 40] ++ g.data.toList) ++ [38, 69, 88, 84, 41, 43, 40]) ++ f.data.toList) ++ [38, 69, 88, 69, 91]) ++ f.data.toList := by rw [hc9, ByteArray.data_append, Array.toList_append, lc8]
  obtain ⟨c10, hc10⟩ : ∃ c10 : ByteArray, c10 = c9 ++ (⟨#[85]⟩ : ByteArray) := ⟨_, rfl⟩
  have zc10 : c10.size ≤ c9.size + 1 := by
    rw [hc10, ByteArray.size_append]
    exact Nat.le_refl _
  have rc10 : ∀ W : World, (Op.stringOp .add c9 (⟨#[85]⟩ : ByteArray)).run Try.prog W = .ok (.string c10) W := fun W => by
    rw [hc10]
    exact run_string_add_sum (P := Try.prog) (w := W) _ _ (by
      show c9.size + 1 ≤ _
      omega)
  have lc10 : c10.data.toList = ((((([40, 40] ++ g.data.toList) ++ [38, 69, 88, 84, 41, 43, 40]) ++ f.data.toList) ++ [38, 69, 88, 69, 91]) ++ f.data.toList) ++ [85] := by rw [hc10, ByteArray.data_append, Array.toList_append, lc9]
  obtain ⟨c11, hc11⟩ : ∃ c11 : ByteArray, c11 = c10 ++ g := ⟨_, rfl⟩
  have zc11 : c11.size ≤ c10.size + g.size := by
    rw [hc11, ByteArray.size_append]
    exact Nat.le_refl _
  have rc11 : ∀ W : World, (Op.stringOp .add c10 g).run Try.prog W = .ok (.string c11) W := fun W => by
    rw [hc11]
    exact run_string_add_sum (P := Try.prog) (w := W) _ _ (by
      show c10.size + g.size ≤ _
      omega)
  have lc11 : c11.data.toList = (((((([40, 40] ++ g.data.toList) ++ [38, 69, 88, 84, 41, 43, 40]) ++ f.data.toList) ++ [38, 69, 88, 69, 91]) ++ f.data.toList) ++ [85]) ++ g.data.toList := by rw [hc11, ByteArray.data_append, Array.toList_append, lc10]
  obtain ⟨c12, hc12⟩ : ∃ c12 : ByteArray, c12 = c11 ++ (⟨#[93, 41, 41]⟩ : ByteArray) := ⟨_, rfl⟩
  have zc12 : c12.size ≤ c11.size + 3 := by
    rw [hc12, ByteArray.size_append]
    exact Nat.le_refl _
  have rc12 : ∀ W : World, (Op.stringOp .add c11 (⟨#[93, 41, 41]⟩ : ByteArray)).run Try.prog W = .ok (.string c12) W := fun W => by
    rw [hc12]
    exact run_string_add_sum (P := Try.prog) (w := W) _ _ (by
      show c11.size + 3 ≤ _
      omega)
  have lc12 : c12.data.toList = ((((((([40, 40] ++ g.data.toList) ++ [38, 69, 88, 84, 41, 43, 40]) ++ f.data.toList) ++ [38, 69, 88, 69, 91]) ++ f.data.toList) ++ [85]) ++ g.data.toList) ++ [93, 41, 41] := by rw [hc12, ByteArray.data_append, Array.toList_append, lc11]
  obtain ⟨c13, hc13⟩ : ∃ c13 : ByteArray, c13 = c1 ++ (⟨#[82]⟩ : ByteArray) := ⟨_, rfl⟩
  have zc13 : c13.size ≤ c1.size + 1 := by
    rw [hc13, ByteArray.size_append]
    exact Nat.le_refl _
  have rc13 : ∀ W : World, (Op.stringOp .add c1 (⟨#[82]⟩ : ByteArray)).run Try.prog W = .ok (.string c13) W := fun W => by
    rw [hc13]
    exact run_string_add_sum (P := Try.prog) (w := W) _ _ (by
      show c1.size + 1 ≤ _
      omega)
  have lc13 : c13.data.toList = ([69, 91] ++ f.data.toList) ++ [82] := by rw [hc13, ByteArray.data_append, Array.toList_append, lc1]
  obtain ⟨c14, hc14⟩ : ∃ c14 : ByteArray, c14 = c13 ++ g := ⟨_, rfl⟩
  have zc14 : c14.size ≤ c13.size + g.size := by
    rw [hc14, ByteArray.size_append]
    exact Nat.le_refl _
  have rc14 : ∀ W : World, (Op.stringOp .add c13 g).run Try.prog W = .ok (.string c14) W := fun W => by
    rw [hc14]
    exact run_string_add_sum (P := Try.prog) (w := W) _ _ (by
      show c13.size + g.size ≤ _
      omega)
  have lc14 : c14.data.toList = (([69, 91] ++ f.data.toList) ++ [82]) ++ g.data.toList := by rw [hc14, ByteArray.data_append, Array.toList_append, lc13]
  obtain ⟨c15, hc15⟩ : ∃ c15 : ByteArray, c15 = c14 ++ (⟨#[93]⟩ : ByteArray) := ⟨_, rfl⟩
  have zc15 : c15.size ≤ c14.size + 1 := by
    rw [hc15, ByteArray.size_append]
    exact Nat.le_refl _
  have rc15 : ∀ W : World, (Op.stringOp .add c14 (⟨#[93]⟩ : ByteArray)).run Try.prog W = .ok (.string c15) W := fun W => by
    rw [hc15]
    exact run_string_add_sum (P := Try.prog) (w := W) _ _ (by
      show c14.size + 1 ≤ _
      omega)
  have lc15 : c15.data.toList = ((([69, 91] ++ f.data.toList) ++ [82]) ++ g.data.toList) ++ [93] := by rw [hc15, ByteArray.data_append, Array.toList_append, lc14]
  obtain ⟨c16, hc16⟩ : ∃ c16 : ByteArray, c16 = (⟨#[40]⟩ : ByteArray) ++ g := ⟨_, rfl⟩
  have zc16 : c16.size ≤ 1 + g.size := by
    rw [hc16, ByteArray.size_append]
    exact Nat.le_refl _
  have rc16 : ∀ W : World, (Op.stringOp .add (⟨#[40]⟩ : ByteArray) g).run Try.prog W = .ok (.string c16) W := fun W => by
    rw [hc16]
    exact run_string_add_sum (P := Try.prog) (w := W) _ _ (by
      show 1 + g.size ≤ _
      omega)
  have lc16 : c16.data.toList = [40] ++ g.data.toList := by rw [hc16, ByteArray.data_append, Array.toList_append]
  obtain ⟨c17, hc17⟩ : ∃ c17 : ByteArray, c17 = c16 ++ (⟨#[38, 40, 40]⟩ : ByteArray) := ⟨_, rfl⟩
  have zc17 : c17.size ≤ c16.size + 3 := by
    rw [hc17, ByteArray.size_append]
    exact Nat.le_refl _
  have rc17 : ∀ W : World, (Op.stringOp .add c16 (⟨#[38, 40, 40]⟩ : ByteArray)).run Try.prog W = .ok (.string c17) W := fun W => by
    rw [hc17]
    exact run_string_add_sum (P := Try.prog) (w := W) _ _ (by
      show c16.size + 3 ≤ _
      omega)
  have lc17 : c17.data.toList = ([40] ++ g.data.toList) ++ [38, 40, 40] := by rw [hc17, ByteArray.data_append, Array.toList_append, lc16]
  obtain ⟨c18, hc18⟩ : ∃ c18 : ByteArray, c18 = c17 ++ f := ⟨_, rfl⟩
  have zc18 : c18.size ≤ c17.size + f.size := by
    rw [hc18, ByteArray.size_append]
    exact Nat.le_refl _
  have rc18 : ∀ W : World, (Op.stringOp .add c17 f).run Try.prog W = .ok (.string c18) W := fun W => by
    rw [hc18]
    exact run_string_add_sum (P := Try.prog) (w := W) _ _ (by
      show c17.size + f.size ≤ _
      omega)
  have lc18 : c18.data.toList = (([40] ++ g.data.toList) ++ [38, 40, 40]) ++ f.data.toList := by rw [hc18, ByteArray.data_append, Array.toList_append, lc17]
  obtain ⟨c19, hc19⟩ : ∃ c19 : ByteArray, c19 = c18 ++ (⟨#[38, 69, 88, 84, 41, 43, 69, 88, 69, 91]⟩ : ByteArray) := ⟨_, rfl⟩
  have zc19 : c19.size ≤ c18.size + 10 := by
    rw [hc19, ByteArray.size_append]
    exact Nat.le_refl _
  have rc19 : ∀ W : World, (Op.stringOp .add c18 (⟨#[38, 69, 88, 84, 41, 43, 69, 88, 69, 91]⟩ : ByteArray)).run Try.prog W = .ok (.string c19) W := fun W => by
    rw [hc19]
    exact run_string_add_sum (P := Try.prog) (w := W) _ _ (by
      show c18.size + 10 ≤ _
      omega)
  have lc19 : c19.data.toList = ((([40] ++ g.data.toList) ++ [38, 40, 40]) ++ f.data.toList) ++ [38, 69, 88, 84, 41, 43, 69, 88, 69, 91] := by rw [hc19, ByteArray.data_append, Array.toList_append, lc18]
  obtain ⟨c20, hc20⟩ : ∃ c20 : ByteArray, c20 = c19 ++ f := ⟨_, rfl⟩
  have zc20 : c20.size ≤ c19.size + f.size := by
    rw [hc20, ByteArray.size_append]
    exact Nat.le_refl _
  have rc20 : ∀ W : World, (Op.stringOp .add c19 f).run Try.prog W = .ok (.string c20) W := fun W => by
    rw [hc20]
    exact run_string_add_sum (P := Try.prog) (w := W) _ _ (by
      show c19.size + f.size ≤ _
      omega)
  have lc20 : c20.data.toList = (((([40] ++ g.data.toList) ++ [38, 40, 40]) ++ f.data.toList) ++ [38, 69, 88, 84, 41, 43, 69, 88, 69, 91]) ++ f.data.toList := by rw [hc20, ByteArray.data_append, Array.toList_append, lc19]
  obtain ⟨c21, hc21⟩ : ∃ c21 : ByteArray, c21 = c20 ++ (⟨#[82]⟩ : ByteArray) := ⟨_, rfl⟩
  have zc21 : c21.size ≤ c20.size + 1 := by
    rw [hc21, ByteArray.size_append]
    exact Nat.le_refl _
  have rc21 : ∀ W : World, (Op.stringOp .add c20 (⟨#[82]⟩ : ByteArray)).run Try.prog W = .ok (.string c21) W := fun W => by
    rw [hc21]
    exact run_string_add_sum (P := Try.prog) (w := W) _ _ (by
      show c20.size + 1 ≤ _
      omega)
  have lc21 : c21.data.toList = ((((([40] ++ g.data.toList) ++ [38, 40, 40]) ++ f.data.toList) ++ [38, 69, 88, 84, 41, 43, 69, 88, 69, 91]) ++ f.data.toList) ++ [82] := by rw [hc21, ByteArray.data_append, Array.toList_append, lc20]
  obtain ⟨c22, hc22⟩ : ∃ c22 : ByteArray, c22 = c21 ++ g := ⟨_, rfl⟩
  have zc22 : c22.size ≤ c21.size + g.size := by
    rw [hc22, ByteArray.size_append]
    exact Nat.le_refl _
  have rc22 : ∀ W : World, (Op.stringOp .add c21 g).run Try.prog W = .ok (.string c22) W := fun W => by
    rw [hc22]
    exact run_string_add_sum (P := Try.prog) (w := W) _ _ (by
      show c21.size + g.size ≤ _
      omega)
  have lc22 : c22.data.toList = (((((([40] ++ g.data.toList) ++ [38, 40, 40]) ++ f.data.toList) ++ [38, 69, 88, 84, 41, 43, 69, 88, 69, 91]) ++ f.data.toList) ++ [82]) ++ g.data.toList := by rw [hc22, ByteArray.data_append, Array.toList_append, lc21]
  obtain ⟨c23, hc23⟩ : ∃ c23 : ByteArray, c23 = c22 ++ (⟨#[93, 41, 41]⟩ : ByteArray) := ⟨_, rfl⟩
  have zc23 : c23.size ≤ c22.size + 3 := by
    rw [hc23, ByteArray.size_append]
    exact Nat.le_refl _
  have rc23 : ∀ W : World, (Op.stringOp .add c22 (⟨#[93, 41, 41]⟩ : ByteArray)).run Try.prog W = .ok (.string c23) W := fun W => by
    rw [hc23]
    exact run_string_add_sum (P := Try.prog) (w := W) _ _ (by
      show c22.size + 3 ≤ _
      omega)
  have lc23 : c23.data.toList = ((((((([40] ++ g.data.toList) ++ [38, 40, 40]) ++ f.data.toList) ++ [38, 69, 88, 84, 41, 43, 69, 88, 69, 91]) ++ f.data.toList) ++ [82]) ++ g.data.toList) ++ [93, 41, 41] := by rw [hc23, ByteArray.data_append, Array.toList_append, lc22]
  obtain ⟨c24, hc24⟩ : ∃ c24 : ByteArray, c24 = (⟨#[65, 91]⟩ : ByteArray) ++ f := ⟨_, rfl⟩
  have zc24 : c24.size ≤ 2 + f.size := by
    rw [hc24, ByteArray.size_append]
    exact Nat.le_refl _
  have rc24 : ∀ W : World, (Op.stringOp .add (⟨#[65, 91]⟩ : ByteArray) f).run Try.prog W = .ok (.string c24) W := fun W => by
    rw [hc24]
    exact run_string_add_sum (P := Try.prog) (w := W) _ _ (by
      show 2 + f.size ≤ _
      omega)
  have lc24 : c24.data.toList = [65, 91] ++ f.data.toList := by rw [hc24, ByteArray.data_append, Array.toList_append]
  obtain ⟨c25, hc25⟩ : ∃ c25 : ByteArray, c25 = c24 ++ (⟨#[85]⟩ : ByteArray) := ⟨_, rfl⟩
  have zc25 : c25.size ≤ c24.size + 1 := by
    rw [hc25, ByteArray.size_append]
    exact Nat.le_refl _
  have rc25 : ∀ W : World, (Op.stringOp .add c24 (⟨#[85]⟩ : ByteArray)).run Try.prog W = .ok (.string c25) W := fun W => by
    rw [hc25]
    exact run_string_add_sum (P := Try.prog) (w := W) _ _ (by
      show c24.size + 1 ≤ _
      omega)
  have lc25 : c25.data.toList = ([65, 91] ++ f.data.toList) ++ [85] := by rw [hc25, ByteArray.data_append, Array.toList_append, lc24]
  obtain ⟨c26, hc26⟩ : ∃ c26 : ByteArray, c26 = c25 ++ g := ⟨_, rfl⟩
  have zc26 : c26.size ≤ c25.size + g.size := by
    rw [hc26, ByteArray.size_append]
    exact Nat.le_refl _
  have rc26 : ∀ W : World, (Op.stringOp .add c25 g).run Try.prog W = .ok (.string c26) W := fun W => by
    rw [hc26]
    exact run_string_add_sum (P := Try.prog) (w := W) _ _ (by
      show c25.size + g.size ≤ _
      omega)
  have lc26 : c26.data.toList = (([65, 91] ++ f.data.toList) ++ [85]) ++ g.data.toList := by rw [hc26, ByteArray.data_append, Array.toList_append, lc25]
  obtain ⟨c27, hc27⟩ : ∃ c27 : ByteArray, c27 = c26 ++ (⟨#[93]⟩ : ByteArray) := ⟨_, rfl⟩
  have zc27 : c27.size ≤ c26.size + 1 := by
    rw [hc27, ByteArray.size_append]
    exact Nat.le_refl _
  have rc27 : ∀ W : World, (Op.stringOp .add c26 (⟨#[93]⟩ : ByteArray)).run Try.prog W = .ok (.string c27) W := fun W => by
    rw [hc27]
    exact run_string_add_sum (P := Try.prog) (w := W) _ _ (by
      show c26.size + 1 ≤ _
      omega)
  have lc27 : c27.data.toList = ((([65, 91] ++ f.data.toList) ++ [85]) ++ g.data.toList) ++ [93] := by rw [hc27, ByteArray.data_append, Array.toList_append, lc26]
  obtain ⟨c28, hc28⟩ : ∃ c28 : ByteArray, c28 = c5 ++ (⟨#[43, 65, 88, 33, 84, 41, 43, 40]⟩ : ByteArray) := ⟨_, rfl⟩
  have zc28 : c28.size ≤ c5.size + 8 := by
    rw [hc28, ByteArray.size_append]
    exact Nat.le_refl _
  have rc28 : ∀ W : World, (Op.stringOp .add c5 (⟨#[43, 65, 88, 33, 84, 41, 43, 40]⟩ : ByteArray)).run Try.prog W = .ok (.string c28) W := fun W => by
    rw [hc28]
    exact run_string_add_sum (P := Try.prog) (w := W) _ _ (by
      show c5.size + 8 ≤ _
      omega)
  have lc28 : c28.data.toList = ([40, 40] ++ g.data.toList) ++ [43, 65, 88, 33, 84, 41, 43, 40] := by rw [hc28, ByteArray.data_append, Array.toList_append, lc5]
  obtain ⟨c29, hc29⟩ : ∃ c29 : ByteArray, c29 = c28 ++ f := ⟨_, rfl⟩
  have zc29 : c29.size ≤ c28.size + f.size := by
    rw [hc29, ByteArray.size_append]
    exact Nat.le_refl _
  have rc29 : ∀ W : World, (Op.stringOp .add c28 f).run Try.prog W = .ok (.string c29) W := fun W => by
    rw [hc29]
    exact run_string_add_sum (P := Try.prog) (w := W) _ _ (by
      show c28.size + f.size ≤ _
      omega)
  have lc29 : c29.data.toList = (([40, 40] ++ g.data.toList) ++ [43, 65, 88, 33, 84, 41, 43, 40]) ++ f.data.toList := by rw [hc29, ByteArray.data_append, Array.toList_append, lc28]
  obtain ⟨c30, hc30⟩ : ∃ c30 : ByteArray, c30 = c29 ++ (⟨#[38, 65, 88, 65, 91]⟩ : ByteArray) := ⟨_, rfl⟩
  have zc30 : c30.size ≤ c29.size + 5 := by
    rw [hc30, ByteArray.size_append]
    exact Nat.le_refl _
  have rc30 : ∀ W : World, (Op.stringOp .add c29 (⟨#[38, 65, 88, 65, 91]⟩ : ByteArray)).run Try.prog W = .ok (.string c30) W := fun W => by
    rw [hc30]
    exact run_string_add_sum (P := Try.prog) (w := W) _ _ (by
      show c29.size + 5 ≤ _
      omega)
  have lc30 : c30.data.toList = ((([40, 40] ++ g.data.toList) ++ [43, 65, 88, 33, 84, 41, 43, 40]) ++ f.data.toList) ++ [38, 65, 88, 65, 91] := by rw [hc30, ByteArray.data_append, Array.toList_append, lc29]
  obtain ⟨c31, hc31⟩ : ∃ c31 : ByteArray, c31 = c30 ++ f := ⟨_, rfl⟩
  have zc31 : c31.size ≤ c30.size + f.size := by
    rw [hc31, ByteArray.size_append]
    exact Nat.le_refl _
  have rc31 : ∀ W : World, (Op.stringOp .add c30 f).run Try.prog W = .ok (.string c31) W := fun W => by
    rw [hc31]
    exact run_string_add_sum (P := Try.prog) (w := W) _ _ (by
      show c30.size + f.size ≤ _
      omega)
  have lc31 : c31.data.toList = (((([40, 40] ++ g.data.toList) ++ [43, 65, 88, 33, 84, 41, 43, 40]) ++ f.data.toList) ++ [38, 65, 88, 65, 91]) ++ f.data.toList := by rw [hc31, ByteArray.data_append, Array.toList_append, lc30]
  obtain ⟨c32, hc32⟩ : ∃ c32 : ByteArray, c32 = c31 ++ (⟨#[85]⟩ : ByteArray) := ⟨_, rfl⟩
  have zc32 : c32.size ≤ c31.size + 1 := by
    rw [hc32, ByteArray.size_append]
    exact Nat.le_refl _
  have rc32 : ∀ W : World, (Op.stringOp .add c31 (⟨#[85]⟩ : ByteArray)).run Try.prog W = .ok (.string c32) W := fun W => by
    rw [hc32]
    exact run_string_add_sum (P := Try.prog) (w := W) _ _ (by
      show c31.size + 1 ≤ _
      omega)
  have lc32 : c32.data.toList = ((((([40, 40] ++ g.data.toList) ++ [43, 65, 88, 33, 84, 41, 43, 40]) ++ f.data.toList) ++ [38, 65, 88, 65, 91]) ++ f.data.toList) ++ [85] := by rw [hc32, ByteArray.data_append, Array.toList_append, lc31]
  obtain ⟨c33, hc33⟩ : ∃ c33 : ByteArray, c33 = c32 ++ g := ⟨_, rfl⟩
  have zc33 : c33.size ≤ c32.size + g.size := by
    rw [hc33, ByteArray.size_append]
    exact Nat.le_refl _
  have rc33 : ∀ W : World, (Op.stringOp .add c32 g).run Try.prog W = .ok (.string c33) W := fun W => by
    rw [hc33]
    exact run_string_add_sum (P := Try.prog) (w := W) _ _ (by
      show c32.size + g.size ≤ _
      omega)
  have lc33 : c33.data.toList = (((((([40, 40] ++ g.data.toList) ++ [43, 65, 88, 33, 84, 41, 43, 40]) ++ f.data.toList) ++ [38, 65, 88, 65, 91]) ++ f.data.toList) ++ [85]) ++ g.data.toList := by rw [hc33, ByteArray.data_append, Array.toList_append, lc32]
  obtain ⟨c34, hc34⟩ : ∃ c34 : ByteArray, c34 = c33 ++ (⟨#[93, 41, 41]⟩ : ByteArray) := ⟨_, rfl⟩
  have zc34 : c34.size ≤ c33.size + 3 := by
    rw [hc34, ByteArray.size_append]
    exact Nat.le_refl _
  have rc34 : ∀ W : World, (Op.stringOp .add c33 (⟨#[93, 41, 41]⟩ : ByteArray)).run Try.prog W = .ok (.string c34) W := fun W => by
    rw [hc34]
    exact run_string_add_sum (P := Try.prog) (w := W) _ _ (by
      show c33.size + 3 ≤ _
      omega)
  have lc34 : c34.data.toList = ((((((([40, 40] ++ g.data.toList) ++ [43, 65, 88, 33, 84, 41, 43, 40]) ++ f.data.toList) ++ [38, 65, 88, 65, 91]) ++ f.data.toList) ++ [85]) ++ g.data.toList) ++ [93, 41, 41] := by rw [hc34, ByteArray.data_append, Array.toList_append, lc33]
  obtain ⟨c35, hc35⟩ : ∃ c35 : ByteArray, c35 = c24 ++ (⟨#[82]⟩ : ByteArray) := ⟨_, rfl⟩
  have zc35 : c35.size ≤ c24.size + 1 := by
    rw [hc35, ByteArray.size_append]
    exact Nat.le_refl _
  have rc35 : ∀ W : World, (Op.stringOp .add c24 (⟨#[82]⟩ : ByteArray)).run Try.prog W = .ok (.string c35) W := fun W => by
    rw [hc35]
    exact run_string_add_sum (P := Try.prog) (w := W) _ _ (by
      show c24.size + 1 ≤ _
      omega)
  have lc35 : c35.data.toList = ([65, 91] ++ f.data.toList) ++ [82] := by rw [hc35, ByteArray.data_append, Array.toList_append, lc24]
  obtain ⟨c36, hc36⟩ : ∃ c36 : ByteArray, c36 = c35 ++ g := ⟨_, rfl⟩
  have zc36 : c36.size ≤ c35.size + g.size := by
    rw [hc36, ByteArray.size_append]
    exact Nat.le_refl _
  have rc36 : ∀ W : World, (Op.stringOp .add c35 g).run Try.prog W = .ok (.string c36) W := fun W => by
    rw [hc36]
    exact run_string_add_sum (P := Try.prog) (w := W) _ _ (by
      show c35.size + g.size ≤ _
      omega)
  have lc36 : c36.data.toList = (([65, 91] ++ f.data.toList) ++ [82]) ++ g.data.toList := by rw [hc36, ByteArray.data_append, Array.toList_append, lc35]
  obtain ⟨c37, hc37⟩ : ∃ c37 : ByteArray, c37 = c36 ++ (⟨#[93]⟩ : ByteArray) := ⟨_, rfl⟩
  have zc37 : c37.size ≤ c36.size + 1 := by
    rw [hc37, ByteArray.size_append]
    exact Nat.le_refl _
  have rc37 : ∀ W : World, (Op.stringOp .add c36 (⟨#[93]⟩ : ByteArray)).run Try.prog W = .ok (.string c37) W := fun W => by
    rw [hc37]
    exact run_string_add_sum (P := Try.prog) (w := W) _ _ (by
      show c36.size + 1 ≤ _
      omega)
  have lc37 : c37.data.toList = ((([65, 91] ++ f.data.toList) ++ [82]) ++ g.data.toList) ++ [93] := by rw [hc37, ByteArray.data_append, Array.toList_append, lc36]
  obtain ⟨c38, hc38⟩ : ∃ c38 : ByteArray, c38 = (⟨#[40, 65, 88, 33, 84, 43, 40]⟩ : ByteArray) ++ g := ⟨_, rfl⟩
  have zc38 : c38.size ≤ 7 + g.size := by
    rw [hc38, ByteArray.size_append]
    exact Nat.le_refl _
  have rc38 : ∀ W : World, (Op.stringOp .add (⟨#[40, 65, 88, 33, 84, 43, 40]⟩ : ByteArray) g).run Try.prog W = .ok (.string c38) W := fun W => by
    rw [hc38]
    exact run_string_add_sum (P := Try.prog) (w := W) _ _ (by
      show 7 + g.size ≤ _
      omega)
  have lc38 : c38.data.toList = [40, 65, 88, 33, 84, 43, 40] ++ g.data.toList := by rw [hc38, ByteArray.data_append, Array.toList_append]
  obtain ⟨c39, hc39⟩ : ∃ c39 : ByteArray, c39 = c38 ++ (⟨#[38, 40]⟩ : ByteArray) := ⟨_, rfl⟩
  have zc39 : c39.size ≤ c38.size + 2 := by
    rw [hc39, ByteArray.size_append]
    exact Nat.le_refl _
  have rc39 : ∀ W : World, (Op.stringOp .add c38 (⟨#[38, 40]⟩ : ByteArray)).run Try.prog W = .ok (.string c39) W := fun W => by
    rw [hc39]
    exact run_string_add_sum (P := Try.prog) (w := W) _ _ (by
      show c38.size + 2 ≤ _
      omega)
  have lc39 : c39.data.toList = ([40, 65, 88, 33, 84, 43, 40] ++ g.data.toList) ++ [38, 40] := by rw [hc39, ByteArray.data_append, Array.toList_append, lc38]
  obtain ⟨c40, hc40⟩ : ∃ c40 : ByteArray, c40 = c39 ++ f := ⟨_, rfl⟩
  have zc40 : c40.size ≤ c39.size + f.size := by
    rw [hc40, ByteArray.size_append]
    exact Nat.le_refl _
  have rc40 : ∀ W : World, (Op.stringOp .add c39 f).run Try.prog W = .ok (.string c40) W := fun W => by
    rw [hc40]
    exact run_string_add_sum (P := Try.prog) (w := W) _ _ (by
      show c39.size + f.size ≤ _
      omega)
  have lc40 : c40.data.toList = (([40, 65, 88, 33, 84, 43, 40] ++ g.data.toList) ++ [38, 40]) ++ f.data.toList := by rw [hc40, ByteArray.data_append, Array.toList_append, lc39]
  obtain ⟨c41, hc41⟩ : ∃ c41 : ByteArray, c41 = c40 ++ (⟨#[43, 65, 88, 65, 91]⟩ : ByteArray) := ⟨_, rfl⟩
  have zc41 : c41.size ≤ c40.size + 5 := by
    rw [hc41, ByteArray.size_append]
    exact Nat.le_refl _
  have rc41 : ∀ W : World, (Op.stringOp .add c40 (⟨#[43, 65, 88, 65, 91]⟩ : ByteArray)).run Try.prog W = .ok (.string c41) W := fun W => by
    rw [hc41]
    exact run_string_add_sum (P := Try.prog) (w := W) _ _ (by
      show c40.size + 5 ≤ _
      omega)
  have lc41 : c41.data.toList = ((([40, 65, 88, 33, 84, 43, 40] ++ g.data.toList) ++ [38, 40]) ++ f.data.toList) ++ [43, 65, 88, 65, 91] := by rw [hc41, ByteArray.data_append, Array.toList_append, lc40]
  obtain ⟨c42, hc42⟩ : ∃ c42 : ByteArray, c42 = c41 ++ f := ⟨_, rfl⟩
  have zc42 : c42.size ≤ c41.size + f.size := by
    rw [hc42, ByteArray.size_append]
    exact Nat.le_refl _
  have rc42 : ∀ W : World, (Op.stringOp .add c41 f).run Try.prog W = .ok (.string c42) W := fun W => by
    rw [hc42]
    exact run_string_add_sum (P := Try.prog) (w := W) _ _ (by
      show c41.size + f.size ≤ _
      omega)
  have lc42 : c42.data.toList = (((([40, 65, 88, 33, 84, 43, 40] ++ g.data.toList) ++ [38, 40]) ++ f.data.toList) ++ [43, 65, 88, 65, 91]) ++ f.data.toList := by rw [hc42, ByteArray.data_append, Array.toList_append, lc41]
  obtain ⟨c43, hc43⟩ : ∃ c43 : ByteArray, c43 = c42 ++ (⟨#[82]⟩ : ByteArray) := ⟨_, rfl⟩
  have zc43 : c43.size ≤ c42.size + 1 := by
    rw [hc43, ByteArray.size_append]
    exact Nat.le_refl _
  have rc43 : ∀ W : World, (Op.stringOp .add c42 (⟨#[82]⟩ : ByteArray)).run Try.prog W = .ok (.string c43) W := fun W => by
    rw [hc43]
    exact run_string_add_sum (P := Try.prog) (w := W) _ _ (by
      show c42.size + 1 ≤ _
      omega)
  have lc43 : c43.data.toList = ((((([40, 65, 88, 33, 84, 43, 40] ++ g.data.toList) ++ [38, 40]) ++ f.data.toList) ++ [43, 65, 88, 65, 91]) ++ f.data.toList) ++ [82] := by rw [hc43, ByteArray.data_append, Array.toList_append, lc42]
  obtain ⟨c44, hc44⟩ : ∃ c44 : ByteArray, c44 = c43 ++ g := ⟨_, rfl⟩
  have zc44 : c44.size ≤ c43.size + g.size := by
    rw [hc44, ByteArray.size_append]
    exact Nat.le_refl _
  have rc44 : ∀ W : World, (Op.stringOp .add c43 g).run Try.prog W = .ok (.string c44) W := fun W => by
    rw [hc44]
    exact run_string_add_sum (P := Try.prog) (w := W) _ _ (by
      show c43.size + g.size ≤ _
      omega)
  have lc44 : c44.data.toList = (((((([40, 65, 88, 33, 84, 43, 40] ++ g.data.toList) ++ [38, 40]) ++ f.data.toList) ++ [43, 65, 88, 65, 91]) ++ f.data.toList) ++ [82]) ++ g.data.toList := by rw [hc44, ByteArray.data_append, Array.toList_append, lc43]
  obtain ⟨c45, hc45⟩ : ∃ c45 : ByteArray, c45 = c44 ++ (⟨#[93, 41, 41, 41]⟩ : ByteArray) := ⟨_, rfl⟩
  have zc45 : c45.size ≤ c44.size + 4 := by
    rw [hc45, ByteArray.size_append]
    exact Nat.le_refl _
  have rc45 : ∀ W : World, (Op.stringOp .add c44 (⟨#[93, 41, 41, 41]⟩ : ByteArray)).run Try.prog W = .ok (.string c45) W := fun W => by
    rw [hc45]
    exact run_string_add_sum (P := Try.prog) (w := W) _ _ (by
      show c44.size + 4 ≤ _
      omega)
  have lc45 : c45.data.toList = ((((((([40, 65, 88, 33, 84, 43, 40] ++ g.data.toList) ++ [38, 40]) ++ f.data.toList) ++ [43, 65, 88, 65, 91]) ++ f.data.toList) ++ [82]) ++ g.data.toList) ++ [93, 41, 41, 41] := by rw [hc45, ByteArray.data_append, Array.toList_append, lc44]
  have SEU := fun W => same_yes gr fr c4 c12 W hfr (same_EU (f := f.data.toList) (g := g.data.toList) (by rw [lc4]; simp) (by rw [lc12]; simp))
  have SER := fun W => same_yes gr fr c15 c23 W hfr (same_ER (f := f.data.toList) (g := g.data.toList) (by rw [lc15]; simp) (by rw [lc23]; simp))
  have SAU := fun W => same_yes gr fr c27 c34 W hfr (same_AU (f := f.data.toList) (g := g.data.toList) (by rw [lc27]; simp) (by rw [lc34]; simp))
  have SAR := fun W => same_yes gr fr c37 c45 W hfr (same_AR (f := f.data.toList) (g := g.data.toList) (by rw [lc37]; simp) (by rw [lc45]; simp))
  clear hc45 zc45 lc45 hc44 zc44 lc44 hc43 zc43 lc43 hc42 zc42 lc42 hc41 zc41 lc41 hc40 zc40 lc40 hc39 zc39 lc39 hc38 zc38 lc38 hc37 zc37 lc37 hc36 zc36 lc36 hc35 zc35 lc35 hc34 zc34 lc34 hc33 zc33 lc33 hc32 zc32 lc32 hc31 zc31 lc31 hc30 zc30 lc30 hc29 zc29 lc29 hc28 zc28 lc28 hc27 zc27 lc27 hc26 zc26 lc26 hc25 zc25 lc25 hc24 zc24 lc24 hc23 zc23 lc23 hc22 zc22 lc22 hc21 zc21 lc21 hc20 zc20 lc20 hc19 zc19 lc19 hc18 zc18 lc18 hc17 zc17 lc17 hc16 zc16 lc16 hc15 zc15 lc15 hc14 zc14 lc14 hc13 zc13 lc13 hc12 zc12 lc12 hc11 zc11 lc11 hc10 zc10 lc10 hc9 zc9 lc9 hc8 zc8 lc8 hc7 zc7 lc7 hc6 zc6 lc6 hc5 zc5 lc5 hc4 zc4 lc4 hc3 zc3 lc3 hc2 zc2 lc2 hc1 zc1 lc1
  go_enter Try.func7, Try.ntmps7
  go_wp2_with (first
    | (go_at_call 16; refine (HAW _).mono ?_; rintro e w1 ⟨rfl, hb1⟩)
    | (go_at_call_of 22 (Value.string c4); refine (SEU _).mono ?_; rintro e w2 ⟨rfl, hb2⟩)
    | (go_at_call_of 22 (Value.string c15); refine (SER _).mono ?_; rintro e w3 ⟨rfl, hb3⟩)
    | (go_at_call_of 22 (Value.string c27); refine (SAU _).mono ?_; rintro e w4 ⟨rfl, hb4⟩)
    | (go_at_call_of 22 (Value.string c37); refine (SAR _).mono ?_; rintro e w5 ⟨rfl, hb5⟩))
  go_ret
  exact ⟨rfl, Below.to (Below.to (Below.to (Below.to hb1 hb2) hb3) hb4) hb5⟩

end Go.Proofs.Ytcfbfdjmcabnkaa

namespace Go.Proofs.Ytcfbfdjmcabnkaa
open Go.ChangeShapes Go.WideShapes Go.ChangeAt Go.RowKit Go.Deep
open Go.ChangeMaps (open_string shut_string)
set_option linter.unusedVariables false

set_option maxRecDepth 100000 in
theorem unrolled_lifted (os : Os) (started : os.Started) (H : Type) (enc : TypeId × Value → H) :
    ReturnsInHanded {} Try.checked os 7 .any (Rows.unrolledSpec.pre6 enc Try.prog Try.f7 Rows.unrolledRow.domain false) (Rows.unrolledSpec.post enc Try.prog Try.f7 false true false false) := by
  refine returnsInHanded_of_change_sized (C := Try.checked) own started (by kernel_rfl) Try.func7
    (ChangeSpec.witness6 (enc := enc) (C := Try.checked) false ⟨#[], #[.string ByteArray.empty, .string ByteArray.empty, .string ByteArray.empty, .string ByteArray.empty], []⟩ 8 (by kernel_rfl) (by kernel_rfl) (by kernel_rfl) (by kernel_rfl)) ?_
  intro W base args ds gs before hval0 hW hcnd hsz _
  have hval : ∀ (j : Nat) t v, Try.f7.params[j]? = some t → args[j]? = some v → Value.okWide Try.prog W .any base t v := hval0
  have hW' := hW
  obtain ⟨p, q, hA0, hV, rfl, hfz, hnd⟩ := hW
  have hA : DataW.TrodAll enc Try.prog W 0 (fun _ => true) true Try.f7.params.toList args.toList ds p := hA0
  rw [Try.params7] at hA hval hsz
  obtain ⟨v0, vs0, d0, ds0, p0, q0, hargs0, rfl, rfl, h0, r0⟩ := trodAll_cons hA
  obtain ⟨v1, vs1, d1, ds1, p1, q1, hargs1, rfl, rfl, h1, r1⟩ := trodAll_cons r0
  obtain ⟨v2, vs2, d2, ds2, p2, q2, hargs2, rfl, rfl, h2, r2⟩ := trodAll_cons r1
  obtain ⟨v3, vs3, d3, ds3, p3, q3, hargs3, rfl, rfl, h3, r3⟩ := trodAll_cons r2
  obtain ⟨rfl, rfl, rfl⟩ := trodAll_nil r3
  obtain rfl : args = #[v0, v1, v2, v3] := by cases args; simp_all
  obtain ⟨rfl, rfl⟩ := trodVars_none hV
  obtain ⟨xa, rfl, rfl, rfl, w0⟩ := open_string Try.underlying9 (hval 0 9 v0 rfl rfl) h0
  obtain ⟨xb, rfl, rfl, rfl, w1⟩ := open_string Try.underlying9 (hval 1 9 v1 rfl rfl) h1
  obtain ⟨xc, rfl, rfl, rfl, w2⟩ := open_string Try.underlying9 (hval 2 9 v2 rfl rfl) h2
  obtain ⟨xd, rfl, rfl, rfl, w3⟩ := open_string Try.underlying9 (hval 3 9 v3 rfl rfl) h3
  have z0 : xa.size ≤ 140737488351232 := by
    have := sized_string hsz (j := 0) (t := 9) rfl rfl
    rw [Array.length_toList] at this
    exact Nat.le_trans this (by decide)
  have z1 : xb.size ≤ 140737488351232 := by
    have := sized_string hsz (j := 1) (t := 9) rfl rfl
    rw [Array.length_toList] at this
    exact Nat.le_trans this (by decide)
  have z2 : xc.size ≤ 140737488351232 := by
    have := sized_string hsz (j := 2) (t := 9) rfl rfl
    rw [Array.length_toList] at this
    exact Nat.le_trans this (by decide)
  have z3 : xd.size ≤ 140737488351232 := by
    have := sized_string hsz (j := 3) (t := 9) rfl rfl
    rw [Array.length_toList] at this
    exact Nat.le_trans this (by decide)
  clear hA0 hval0
  refine (unrolled_walk xa xb xc xd W (by omega) z2 z3).mono fun e W' ⟨he, bel⟩ => ?_
  subst he
  exact ⟨_, rfl, _, _, _, [], _, [], hW', trodAll_mk1 (shut_bool Try.underlying4 _), (trodAll_cons_mk (shut_string Try.underlying9 w0) (trodAll_cons_mk (shut_string Try.underlying9 w1) (trodAll_cons_mk (shut_string Try.underlying9 w2) (trodAll_cons_mk (shut_string Try.underlying9 w3) trodAll_mk0)))), rfl, bel.frame _, fun h => by cases h⟩

theorem unrolled_holds : Rows.UnrolledSaid :=
  OpenClaim.holds_of_wide 7 Try.f7 rfl rfl rfl rfl rfl rfl rfl ⟨rfl, rfl, rfl, rfl, rfl⟩ rfl rfl rfl rfl rfl (by kernel_rfl) Try.func7 (by kernel_rfl)
    (of_decide_eq_true (by kernel_rfl)) (by unfold Func.isWrapper; first | (rw [if_pos (by decide +kernel)]; kernel_rfl) | (rw [if_neg (by decide +kernel)]; exact ⟨rfl, rfl⟩))
    (fun os started H enc _ => unrolled_lifted os started H enc)
#print axioms unrolled_holds
end Go.Proofs.Ytcfbfdjmcabnkaa

