import Derived.Test.YtkjnhhbibaimfaaSq
namespace Go.Proofs.Ytkjnhhbibaimfaa
open Go.RowKit Fw
open Go.Deep (BT)
set_option linter.unusedVariables false

theorem some_is (gb : Nat) (G : Gph) (ok : G.ok) (mk : Nat → ByteArray) (f : ByteArray) (hf : f.size ≤ 1000) (c : Nat) (hc : c = 88 ∨ c = 85 ∨ c = 82) (X Y : Nat → Bool) : SomeIs gb G mk f c X Y (upto G.n (someB G (fsOf f) c X Y)) := by
  intro w h
  rcases hc with rfl | rfl | rfl
  · exact someX_is gb G ok mk X Y f w hf h
  · exact someU_is gb G ok mk X Y f w hf h
  · exact someR_is gb G ok mk X Y f w hf h
theorem out_is (gb : Nat) (G : Gph) (mk : Nat → ByteArray) (X : Nat → Bool) : OutIs gb G mk X (upto G.n fun j => !(X j)) := fun w h => without_is gb G mk X w h

theorem parts1_is {s : ByteArray} {l r : Fm} {sg : Nat} (h : s.data.toList = 40 :: (txt l ++ b8 sg :: (txt r ++ [41]))) (gl : good l) (hsg : sg < 256) (hz : s.size ≤ 60) :
    PartsIs s (s.extract 1 (1 + (txt l).length)) (s.extract (1 + (txt l).length + 1) (s.size - 1)) 1 sg := by
  have hsz := size_of h
  simp only [List.length_cons, List.length_append, List.length_nil] at hsz
  have hend := end_at1 h gl
  obtain ⟨m, hm⟩ : ∃ m, m = 1 + (txt l).length := ⟨_, rfl⟩
  have hms : m < s.size := by omega
  have hmid : s[m].toNat = sg := by rw [at_mid1 h m hm hms, b8_nat hsg]
  rw [← hm] at hend ⊢
  intro w
  exact parts_core s _ _ 1 m (m + 1) (s.size - 1) sg w hz (by omega) hms hmid hend rfl rfl (i64_add1 m (by omega)) (i64_sub1 s.size (by omega) (by omega)) (by omega) (by omega) (by omega) (by omega) (by omega) (by omega) (by omega) (by omega) (by omega) (by omega) (by omega)

theorem parts2_is {s : ByteArray} {l r : Fm} {sg : Nat} {d : UInt8} (h : s.data.toList = d :: 91 :: (txt l ++ b8 sg :: (txt r ++ [93]))) (gl : good l) (hsg : sg < 256) (hz : s.size ≤ 60) :
    PartsIs s (s.extract 2 (2 + (txt l).length)) (s.extract (2 + (txt l).length + 1) (s.size - 1)) 2 sg := by
  have hsz := size_of h
  simp only [List.length_cons, List.length_append, List.length_nil] at hsz
  have hend := end_at2 h gl
  obtain ⟨m, hm⟩ : ∃ m, m = 2 + (txt l).length := ⟨_, rfl⟩
  have hms : m < s.size := by omega
  have hmid : s[m].toNat = sg := by rw [at_mid2 h m hm hms, b8_nat hsg]
  rw [← hm] at hend ⊢
  intro w
  exact parts_core s _ _ 2 m (m + 1) (s.size - 1) sg w hz (by omega) hms hmid hend rfl rfl (i64_add1 m (by omega)) (i64_sub1 s.size (by omega) (by omega)) (by omega) (by omega) (by omega) (by omega) (by omega) (by omega) (by omega) (by omega) (by omega) (by omega) (by omega)

theorem upto_and {n : Nat} {g : Nat → Bool} : (fun j => decide (j < n) && g j) = upto n g := by
  funext j; unfold upto; by_cases h : j < n <;> simp [h]
theorem upto_not {n : Nat} {g : Nat → Bool} : upto n (fun j => !(upto n g j)) = fun j => decide (j < n) && !(g j) := by
  rw [upto_and]
  exact upto_congr fun j hj => by rw [upto_lt hj]
theorem upto_upto {n : Nat} {g : Nat → Bool} : upto n (upto n g) = upto n g := upto_congr fun j hj => upto_lt hj

theorem HoldIs.congr {gb : Nat} {G : Gph} {mk : Nat → ByteArray} {f s : ByteArray} {X Y : Nat → Bool} (h : HoldIs gb G mk f s X) (e : X = Y) : HoldIs gb G mk f s Y := e ▸ h

theorem someX_any (G : Gph) (fs : List Nat) (X Y Z : Nat → Bool) : someB G fs 88 X Y = someB G fs 88 X Z := by
  funext i; simp [someB]

/-- THE REFERENCE'S Holds IS WHAT IS RECKONED -/
theorem holds_any (gb : Nat) (G : Gph) (ok : G.ok) (mk : Nat → ByteArray) (f : ByteArray) (hf : f.size ≤ 1000) : ∀ (t : Fm), good t → ∀ s : ByteArray, s.data.toList = txt t → s.size ≤ 60 → HoldIs gb G mk f s (upto G.n (holdsB G (fsOf f) t)) := by
  intro t
  induction t with
  | nil => intro h; exact absurd h (by simp [good])
  | node sg wy u l r ihl ihr =>
    intro h s hs hz
    rcases good_cases h with ⟨c, e, hc, ht⟩ | ⟨x, e, hx, ht⟩ | ⟨q, x, y, e, hq, hx, hy, ht⟩ | ⟨v, x, e, hv, hx, ht⟩ | ⟨q, v, x, y, e, hq, hv, hx, hy, ht⟩
    · rw [ht] at hs
      rw [e]
      have hsz := size_of hs
      have hp : 0 < s.size := by rw [hsz]; simp
      have h0 : s[0].toNat = c := by rw [at0 hs hp, b8_nat (isAtom_lt hc)]
      simp only [isAtom, decide_eq_true_eq] at hc
      refine (holds_atom gb G mk f s c hp h0 (by rw [beq_eq_false_iff_ne]; omega) (by rw [beq_eq_false_iff_ne]; omega) (by rw [bne_iff_ne]; omega) (by rw [bne_iff_ne]; omega)).congr ?_
      refine upto_congr fun j _ => ?_
      rw [holdsB, if_neg (by omega), if_neg (by omega), if_neg (by omega), if_neg (by omega)]
      by_cases h84 : c = 84
      · rw [if_pos h84, h84]; rfl
      · rw [if_neg h84, beq_false_of_ne h84, Bool.false_or]
    · rw [ht] at hs
      injection e with e3 e0 _ e1 e2
      subst e3 e0 e1 e2
      have hsz := size_of hs
      simp only [List.length_cons] at hsz
      have hp : 0 < s.size := by omega
      have hX := ihl hx _ (ext_tail1 hs) (by rw [ByteArray.size_extract]; omega)
      refine (holds_not gb G mk f s _ _ hp (by omega) (at0 hs hp) rfl hX).congr ?_
      refine upto_congr fun j hj => ?_
      rw [upto_lt hj, holdsB, if_pos rfl]
    · rw [ht] at hs
      injection e with e3 e0 _ e1 e2
      subst e3 e0 e1 e2
      have hsz := size_of hs
      simp only [List.length_cons, List.length_append, List.length_nil] at hsz
      have hp : 0 < s.size := by omega
      have hQ := parts1_is hs hx (by omega) hz
      have hX := ihl hx _ (ext_left1 hs) (by rw [size_of (ext_left1 hs)]; omega)
      have hY := ihr hy _ (ext_right1 hs) (by rw [size_of (ext_right1 hs)]; omega)
      rcases hq with rfl | rfl
      · refine (holds_and gb G mk f s _ _ _ _ hp (at0 hs hp) hQ hX hY).congr ?_
        funext j
        unfold upto
        by_cases hj : j < G.n
        · simp [hj, holdsB]
        · simp [hj]
      · refine (holds_or gb G mk f s _ _ _ _ hp (at0 hs hp) hQ hX hY).congr ?_
        refine upto_congr fun j hj => ?_
        simp [upto_lt hj, holdsB]
    · rw [ht] at hs
      injection e with e3 e0 _ e1 e2
      subst e3 e0 e1 e2
      have hsz := size_of hs
      simp only [List.length_cons] at hsz
      have hp : 0 < s.size := by omega
      have hp1 : 1 < s.size := by omega
      have hX := ihl hx _ (ext_tail2 hs) (by rw [size_of (ext_tail2 hs)]; omega)
      have h1 := at1 hs hp1
      rcases hv with rfl | rfl
      · refine (holds_ex gb G mk f s _ _ _ hp hp1 (by omega) (at0 hs hp) h1 rfl hX (some_is gb G ok mk f hf 88 (.inl rfl) _ _)).congr ?_
        refine upto_congr fun j hj => ?_
        rw [holdsB, if_neg (by omega), if_neg (by omega), if_neg (by omega), if_pos (by omega), if_pos rfl, upto_and, someX_any G (fsOf f) _ _ (fun j => decide (j < G.n) && holdsB G (fsOf f) .nil j)]
      · refine (holds_ax gb G mk f s _ _ _ _ _ _ _ rfl hp hp1 (by omega) (at0 hs hp) h1 rfl hX (out_is gb G mk _) (out_is gb G mk _) (some_is gb G ok mk f hf 88 (.inl rfl) _ _) (out_is gb G mk _)).congr ?_
        refine upto_congr fun j hj => ?_
        rw [holdsB, if_neg (by omega), if_neg (by omega), if_neg (by omega), if_pos (by omega), if_neg (by omega), upto_lt hj, upto_not]
        rw [someX_any G (fsOf f) _ _ (fun j => decide (j < G.n) && !(holdsB G (fsOf f) .nil j))]
        rfl
    · rw [ht] at hs
      injection e with e3 e0 _ e1 e2
      subst e3 e0 e1 e2
      have hsz := size_of hs
      simp only [List.length_cons, List.length_append, List.length_nil] at hsz
      have hp : 0 < s.size := by omega
      have hp1 : 1 < s.size := by omega
      have hQ := parts2_is hs hx (by omega) hz
      have hX := ihl hx _ (ext_left2 hs) (by rw [size_of (ext_left2 hs)]; omega)
      have hY := ihr hy _ (ext_right2 hs) (by rw [size_of (ext_right2 hs)]; omega)
      have h1 := at1 hs hp1
      rcases hv with rfl | rfl
      · refine (holds_ew gb G mk f s _ _ _ _ _ _ hp hp1 (at0 hs hp) h1 hQ hX hY (some_is gb G ok mk f hf _ (.inr hq) _ _)).congr ?_
        refine upto_congr fun j hj => ?_
        rw [holdsB, if_neg (by omega), if_neg (by omega), if_neg (by omega), if_pos (by omega), if_pos rfl, upto_and, upto_and]
      · rcases hq with rfl | rfl
        · refine (holds_au gb G mk f s _ _ _ _ _ _ _ _ hp hp1 (at0 hs hp) h1 hQ hX hY (out_is gb G mk _) (out_is gb G mk _) (some_is gb G ok mk f hf 82 (by omega) _ _) (out_is gb G mk _)).congr ?_
          refine upto_congr fun j hj => ?_
          rw [holdsB, if_neg (by omega), if_neg (by omega), if_neg (by omega), if_pos (by omega), if_neg (by omega), upto_lt hj, upto_not, upto_not]
          rfl
        · refine (holds_ar gb G mk f s _ _ _ _ _ _ _ _ hp hp1 (at0 hs hp) h1 hQ hX hY (out_is gb G mk _) (out_is gb G mk _) (some_is gb G ok mk f hf 85 (by omega) _ _) (out_is gb G mk _)).congr ?_
          refine upto_congr fun j hj => ?_
          rw [holdsB, if_neg (by omega), if_neg (by omega), if_neg (by omega), if_pos (by omega), if_neg (by omega), upto_lt hj, upto_not, upto_not]
          rfl

end Go.Proofs.Ytkjnhhbibaimfaa
