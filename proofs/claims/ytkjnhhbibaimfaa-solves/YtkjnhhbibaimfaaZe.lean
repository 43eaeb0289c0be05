import Derived.Test.YtkjnhhbibaimfaaZd
namespace Go.Proofs.Ytkjnhhbibaimfaa
open Go.RowKit Fw
open Go.Deep (BT)
set_option linter.unusedVariables false

theorem sum_bs {a b c : List UInt8} (h : a.length + b.length ≤ 10000) (hc : a ++ b = c) : Sum (bs a) (bs b) (bs c) := by
  refine sum_of (by rw [bs_size, bs_size]; exact h) ?_
  rw [bs_add, hc]

theorem pushed_bin (sg : Nat) (l r : Fm) (hs : sg = 38 ∨ sg = 43) (gl : good l) (gr : good r) (ihl : PushAt l) (ihr : PushAt r) : PushAt (.node sg 0 () l r) := by
  intro neg s w h hz
  rw [txt_bin hs] at h
  have hsz := size_of h
  simp only [List.length_cons, List.length_append, List.length_nil] at hsz
  have hp : 0 < s.size := by omega
  have h0' : s[0].toNat = 40 := at0 h hp
  have hend := end_at1 h gl
  have hxl := ext_left1 h
  have hxr := ext_right1 h
  obtain ⟨m, hm⟩ : ∃ m, m = 1 + (txt l).length := ⟨_, rfl⟩
  have hms : m < s.size := by omega
  have hmid : s[m].toNat = sg := by rw [at_mid1 h m hm hms, b8_nat (by omega)]
  rw [← hm] at hend hxl hxr
  have z1 := push_len l gl neg
  have z2 := push_len r gr neg
  rw [push_bin hs]
  exact bin_core neg s (s.extract 1 m) (s.extract (m + 1) (s.size - 1)) (bs (push l neg)) (bs [b8 (tn neg sg)]) (bs (push r neg)) (bs (40 :: push l neg)) (bs ((40 :: push l neg) ++ [b8 (tn neg sg)])) (bs (((40 :: push l neg) ++ [b8 (tn neg sg)]) ++ push r neg)) _
    m (m + 1) (s.size - 1) sg w hz hp h0' hms hmid hend rfl rfl (i64_add1 m (by omega)) (i64_sub1 s.size (by omega) (by omega)) (by omega) (by omega) (by omega) (by omega) (by omega) (by omega) (by omega) (by omega) (by omega)
    (fun w => ihl neg _ w hxl (by rw [size_of hxl]; omega)) (fun w => ihr neg _ w hxr (by rw [size_of hxr]; omega)) (fun w => turned_any sg neg (by unfold isSg; omega) w)
    (sum_bs (a := [40]) (by simp; omega) rfl) (sum_bs (by simp; omega) rfl) (sum_bs (by simp; omega) rfl) (sum_bs (b := [41]) (by simp; omega) (by simp))

theorem way_facts {c0 : Nat} (h : c0 = 69 ∨ c0 = 65) : ((c0 : Int) == 33) = false ∧ ((c0 : Int) == 40) = false ∧ (((c0 : Int) != 69) = false ∨ (((c0 : Int) != 69) = true ∧ ((c0 : Int) != 65) = false)) := by
  rcases h with rfl | rfl <;> decide

theorem pushed_x (wy : Nat) (l : Fm) (hv : wy = 69 ∨ wy = 65) (gl : good l) (ih : PushAt l) : PushAt (.node 88 wy () l .nil) := by
  intro neg s w h hz
  rw [txt_one88] at h
  have hsz := size_of h
  simp only [List.length_cons] at hsz
  have hp : 0 < s.size := by omega
  have hp1 : 1 < s.size := by omega
  have h0' : s[0].toNat = wy := by rw [at0 h hp, b8_nat (by omega)]
  have h1' : s[1].toNat = 88 := at1 h hp1
  have hx := ext_tail2 h
  have z1 := push_len l gl neg
  obtain ⟨f1, f2, f3⟩ := way_facts hv
  rw [push_x]
  exact x_core neg s (s.extract 2 s.size) (bs (push l neg)) (bs [b8 (tn neg wy)]) (bs [b8 (tn neg wy), 88]) _ wy w hz hp hp1 (by omega) h0' h1' rfl f1 f2 f3
    (fun w => ih neg _ w hx (by rw [size_of hx]; omega)) (fun w => turned_any wy neg (by unfold isSg; omega) w)
    (sum_bs (b := [88]) (by simp) rfl) (sum_bs (by simp; omega) rfl)

theorem pushed_way (sg wy : Nat) (l r : Fm) (hs : sg = 85 ∨ sg = 82) (hv : wy = 69 ∨ wy = 65) (gl : good l) (gr : good r) (ihl : PushAt l) (ihr : PushAt r) : PushAt (.node sg wy () l r) := by
  intro neg s w h hz
  rw [txt_way hs] at h
  have hsz := size_of h
  simp only [List.length_cons, List.length_append, List.length_nil] at hsz
  have hp : 0 < s.size := by omega
  have hp1 : 1 < s.size := by omega
  have h0' : s[0].toNat = wy := by rw [at0 h hp, b8_nat (by omega)]
  have h1' : s[1].toNat = 91 := at1 h hp1
  have hend := end_at2 h gl
  have hxl := ext_left2 h
  have hxr := ext_right2 h
  obtain ⟨m, hm⟩ : ∃ m, m = 2 + (txt l).length := ⟨_, rfl⟩
  have hms : m < s.size := by omega
  have hmid : s[m].toNat = sg := by rw [at_mid2 h m hm hms, b8_nat (by omega)]
  rw [← hm] at hend hxl hxr
  have z1 := push_len l gl neg
  have z2 := push_len r gr neg
  obtain ⟨f1, f2, f3⟩ := way_facts hv
  rw [push_way hs]
  exact way_core neg s (s.extract 2 m) (s.extract (m + 1) (s.size - 1)) (bs (push l neg)) (bs (push r neg)) (bs [b8 (tn neg wy), 91]) (bs ([b8 (tn neg wy), 91] ++ push l neg)) (bs (([b8 (tn neg wy), 91] ++ push l neg) ++ [b8 (tn neg sg)])) (bs ((([b8 (tn neg wy), 91] ++ push l neg) ++ [b8 (tn neg sg)]) ++ push r neg)) _
    (fun x => bs [b8 (tn neg x)]) m (m + 1) (s.size - 1) sg wy w hz hp hp1 h0' h1' hms hmid f1 f2 f3 hend rfl rfl (i64_add1 m (by omega)) (i64_sub1 s.size (by omega) (by omega)) (by omega) (by omega) (by omega) (by omega) (by omega) (by omega) (by omega) (by omega) (by omega)
    (fun w => ihl neg _ w hxl (by rw [size_of hxl]; omega)) (fun w => ihr neg _ w hxr (by rw [size_of hxr]; omega)) (fun x hx w => turned_any x neg (by unfold isSg; omega) w)
    (sum_bs (b := [91]) (by simp) rfl) (sum_bs (by simp; omega) rfl) (sum_bs (by simp; omega) rfl) (sum_bs (by simp; omega) rfl) (sum_bs (b := [93]) (by simp; omega) (by simp))

theorem pushed_any : ∀ (t : Fm), good t → PushAt t := by
  intro t
  induction t with
  | nil => intro h; exact absurd h (by simp [good])
  | node sg wy u l r ihl ihr =>
    intro h
    rcases good_cases h with ⟨c, e, hc, ht⟩ | ⟨x, e, hx, ht⟩ | ⟨s, x, y, e, hs, hx, hy, ht⟩ | ⟨v, x, e, hv, hx, ht⟩ | ⟨s, v, x, y, e, hs, hv, hx, hy, ht⟩
    · rw [e]; exact pushed_atom c hc
    · injection e with e3 e0 _ e1 e2
      subst e3 e0 e1 e2
      exact pushed_not _ (ihl hx)
    · injection e with e3 e0 _ e1 e2
      subst e3 e0 e1 e2
      exact pushed_bin _ _ _ hs hx hy (ihl hx) (ihr hy)
    · injection e with e3 e0 _ e1 e2
      subst e3 e0 e1 e2
      exact pushed_x _ _ hv hx (ihl hx)
    · injection e with e3 e0 _ e1 e2
      subst e3 e0 e1 e2
      exact pushed_way _ _ _ _ hs hv hx hy (ihl hx) (ihr hy)

end Go.Proofs.Ytkjnhhbibaimfaa
