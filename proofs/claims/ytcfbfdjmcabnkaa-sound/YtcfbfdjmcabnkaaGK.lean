import Derived.Test.YtcfbfdjmcabnkaaG6
import Derived.Test.YtcfbfdjmcabnkaaG1
namespace Go.Proofs.Ytcfbfdjmcabnkaa
open Fw
open Go.Deep (BT)
set_option linter.unusedVariables false

/-! ### A formula's text is read as that formula -/
theorem pt_txt : ∀ (t : Fm), good t → ∀ (n : Nat) (r : List UInt8), (txt t).length < n → pt n (txt t ++ r) = (true, r, t) := by
  intro t
  induction t with
  | nil => intro h; exact absurd h (by simp [good])
  | node sg wy u l r ihl ihr =>
    intro h n q hn
    obtain ⟨n, rfl⟩ : ∃ m, n = m + 1 := ⟨n - 1, by omega⟩
    rcases good_cases h with ⟨c, e, hc, ht⟩ | ⟨x, e, hx, ht⟩ | ⟨s, x, y, e, hs, hx, hy, ht⟩ | ⟨v, x, e, hv, hx, ht⟩ | ⟨s, v, x, y, e, hs, hv, hx, hy, ht⟩
    · rw [ht, e]
      have hb := b8_nat (isAtom_lt hc)
      show pt (n + 1) (b8 c :: ([] ++ q)) = _
      rw [pt, hb, if_pos hc, List.nil_append]
    · rw [ht] at hn ⊢
      injection e with e3 e0 _ e1 e2
      subst e3 e0 e1 e2
      simp only [List.length_cons] at hn
      show pt (n + 1) (33 :: (txt _ ++ q)) = _
      rw [pt, if_neg (by decide), if_pos (by decide), ihl hx n q (by omega)]
      rfl
    · rw [ht] at hn ⊢
      injection e with e3 e0 _ e1 e2
      subst e3 e0 e1 e2
      simp only [List.length_cons, List.length_append, List.length_nil] at hn
      have hb : (b8 sg).toNat = sg := b8_nat (by omega)
      rw [show (40 :: (txt l ++ b8 sg :: (txt r ++ [41])) ++ q : List UInt8) = 40 :: (txt l ++ (b8 sg :: (txt r ++ (41 :: q)))) from by simp]
      rw [pt, if_neg (by decide), if_neg (by decide), if_pos (by decide), two, ihl hx n _ (by omega)]
      simp only [if_true]
      rw [mid, hb, if_pos hs, ihr hy n _ (by omega)]
      simp
    · rw [ht] at hn ⊢
      injection e with e3 e0 _ e1 e2
      subst e3 e0 e1 e2
      simp only [List.length_cons] at hn
      have hb : (b8 wy).toNat = wy := b8_nat (by omega)
      show pt (n + 1) (b8 wy :: (88 :: (txt l ++ q))) = _
      rw [pt, hb, if_neg (by simp [isAtom]; omega), if_neg (by omega), if_neg (by omega), if_pos hv, Fw.ways, if_pos (by decide), ihl hx n q (by omega)]
      rfl
    · rw [ht] at hn ⊢
      injection e with e3 e0 _ e1 e2
      subst e3 e0 e1 e2
      simp only [List.length_cons, List.length_append, List.length_nil] at hn
      have hb : (b8 wy).toNat = wy := b8_nat (by omega)
      have hb2 : (b8 sg).toNat = sg := b8_nat (by omega)
      rw [show (b8 wy :: 91 :: (txt l ++ b8 sg :: (txt r ++ [93])) ++ q : List UInt8) = b8 wy :: (91 :: (txt l ++ (b8 sg :: (txt r ++ (93 :: q))))) from by simp]
      rw [pt, hb, if_neg (by simp [isAtom]; omega), if_neg (by omega), if_neg (by omega), if_pos hv, Fw.ways, if_neg (by decide), if_pos (by decide), two, ihl hx n _ (by omega)]
      simp only [if_true]
      rw [mid, hb2, if_pos hs, ihr hy n _ (by omega)]
      simp

/-! ### Pushing, of trees -/
def pushT : Fm → Bool → Fm
  | .nil, _ => .nil
  | .node sg wy _ l r, neg =>
    if sg = 33 then pushT l (!neg)
    else if sg = 38 ∨ sg = 43 then .node (tn neg sg) 0 () (pushT l neg) (pushT r neg)
    else if sg = 88 then .node 88 (tn neg wy) () (pushT l neg) .nil
    else if sg = 85 ∨ sg = 82 then .node (tn neg sg) (tn neg wy) () (pushT l neg) (pushT r neg)
    else if neg = true then .node 33 0 () (.node sg 0 () .nil .nil) .nil else .node sg 0 () .nil .nil

theorem tn_bin {sg : Nat} (h : sg = 38 ∨ sg = 43) (neg : Bool) : tn neg sg = 38 ∨ tn neg sg = 43 := by
  rcases h with rfl | rfl <;> cases neg <;> simp [tn, opp]
theorem tn_ur {sg : Nat} (h : sg = 85 ∨ sg = 82) (neg : Bool) : tn neg sg = 85 ∨ tn neg sg = 82 := by
  rcases h with rfl | rfl <;> cases neg <;> simp [tn, opp]
theorem tn_wy {wy : Nat} (h : wy = 69 ∨ wy = 65) (neg : Bool) : tn neg wy = 69 ∨ tn neg wy = 65 := by
  rcases h with rfl | rfl <;> cases neg <;> simp [tn, opp]

theorem pushT_not (wy : Nat) (l : Fm) (neg : Bool) : pushT (.node 33 wy () l .nil) neg = pushT l (!neg) := by simp [pushT]
theorem pushT_bin {sg : Nat} (h : sg = 38 ∨ sg = 43) (wy : Nat) (l r : Fm) (neg : Bool) : pushT (.node sg wy () l r) neg = .node (tn neg sg) 0 () (pushT l neg) (pushT r neg) := by
  rw [pushT, if_neg (by omega), if_pos h]
theorem pushT_x (wy : Nat) (l : Fm) (neg : Bool) : pushT (.node 88 wy () l .nil) neg = .node 88 (tn neg wy) () (pushT l neg) .nil := by simp [pushT]
theorem pushT_way {sg : Nat} (h : sg = 85 ∨ sg = 82) (wy : Nat) (l r : Fm) (neg : Bool) : pushT (.node sg wy () l r) neg = .node (tn neg sg) (tn neg wy) () (pushT l neg) (pushT r neg) := by
  rw [pushT, if_neg (by omega), if_neg (by omega), if_neg (by omega), if_pos h]
theorem pushT_atom {c : Nat} (h : isAtom c = true) (neg : Bool) : pushT (.node c 0 () .nil .nil) neg = if neg = true then .node 33 0 () (.node c 0 () .nil .nil) .nil else .node c 0 () .nil .nil := by
  simp only [isAtom, decide_eq_true_eq] at h
  rw [pushT, if_neg (by omega), if_neg (by omega), if_neg (by omega), if_neg (by omega)]

/-- its text; it is a formula; nested as deep -/
theorem pushT_is : ∀ (t : Fm), good t → ∀ neg, txt (pushT t neg) = push t neg ∧ good (pushT t neg) ∧ nst (pushT t neg) = nst t := by
  intro t
  induction t with
  | nil => intro h; exact absurd h (by simp [good])
  | node sg wy u l r ihl ihr =>
    intro h neg
    rcases good_cases h with ⟨c, e, hc, ht⟩ | ⟨x, e, hx, ht⟩ | ⟨s, x, y, e, hs, hx, hy, ht⟩ | ⟨v, x, e, hv, hx, ht⟩ | ⟨s, v, x, y, e, hs, hv, hx, hy, ht⟩
    · rw [e, push_atom hc, pushT_atom hc]
      cases neg with
      | true => exact ⟨by rw [if_pos rfl, if_pos rfl, txt_one33, txt_atom hc], by rw [if_pos rfl]; exact good_one (.inl ⟨rfl, rfl⟩) (good_atom hc), by simp [nst]⟩
      | false => exact ⟨by rw [if_neg (by simp), if_neg (by simp), txt_atom hc], by rw [if_neg (by simp)]; exact good_atom hc, by simp [nst]⟩
    · injection e with e3 e0 _ e1 e2
      subst e3 e0 e1 e2
      rw [push_not, pushT_not]
      obtain ⟨a, b, c⟩ := ihl hx (!neg)
      exact ⟨a, b, by rw [c]; simp [nst]⟩
    · injection e with e3 e0 _ e1 e2
      subst e3 e0 e1 e2
      rw [push_bin hs, pushT_bin hs]
      obtain ⟨a, b, c⟩ := ihl hx neg
      obtain ⟨a', b', c'⟩ := ihr hy neg
      refine ⟨?_, good_two (.inl ⟨tn_bin hs neg, rfl⟩) b b', by simp [nst, c, c']⟩
      rw [txt_bin (tn_bin hs neg), a, a']
    · injection e with e3 e0 _ e1 e2
      subst e3 e0 e1 e2
      rw [push_x, pushT_x]
      obtain ⟨a, b, c⟩ := ihl hx neg
      refine ⟨by rw [txt_one88, a], good_one (.inr ⟨rfl, tn_wy hv neg⟩) b, ?_⟩
      have h1 := tn_wy hv neg
      simp only [nst, c]
      rw [if_neg (by omega), if_neg (by omega)]
    · injection e with e3 e0 _ e1 e2
      subst e3 e0 e1 e2
      rw [push_way hs, pushT_way hs]
      obtain ⟨a, b, c⟩ := ihl hx neg
      obtain ⟨a', b', c'⟩ := ihr hy neg
      refine ⟨by rw [txt_way (tn_ur hs neg), a, a'], good_two (.inr ⟨tn_ur hs neg, tn_wy hv neg⟩) b b', ?_⟩
      have h1 := tn_wy hv neg
      simp only [nst, c, c']
      rw [if_neg (by omega), if_neg (by omega)]

end Go.Proofs.Ytcfbfdjmcabnkaa

