import Derived.Test.YtcfbfdjmcabnkaaG1
import Derived.Test.YtcfbfdjmcabnkaaG14
/- CERTIFICATES, read from left to right; what they show is so. Nothing of the dump. -/
namespace Go.Proofs.Ytcfbfdjmcabnkaa.Fw
open Go.Deep (BT)
set_option linter.unusedVariables false

/-- the leading digits below n, k of them at most -/
def dig (n : Nat) : Nat → List UInt8 → List Nat
  | 0, _ => []
  | _ + 1, [] => []
  | k + 1, c :: r => if 48 ≤ c.toNat ∧ c.toNat < 48 + n then (c.toNat - 48) :: dig n k r else []

theorem dig_le (n : Nat) : ∀ k l, (dig n k l).length ≤ k ∧ (dig n k l).length ≤ l.length := by
  intro k
  induction k with
  | zero => intro l; simp [dig]
  | succ k ih =>
    intro l
    cases l with
    | nil => simp [dig]
    | cons c r =>
      unfold dig
      split
      · have := ih r; simp; omega
      · simp

theorem dig_lt (n : Nat) : ∀ k l, ∀ x ∈ dig n k l, x < n := by
  intro k
  induction k with
  | zero => intro l x hx; simp [dig] at hx
  | succ k ih =>
    intro l x hx
    cases l with
    | nil => simp [dig] at hx
    | cons c r =>
      unfold dig at hx
      split at hx
      · rcases List.mem_cons.1 hx with rfl | h
        · omega
        · exact ih r x h
      · simp at hx

/-- a lasso's form at a place: the states at its listed places, where its loop begins, the place behind it -/
def las (n : Nat) (s : ByteArray) (p : Nat) : Option (List Nat × Nat × Nat) :=
  if isAt s p 91 = true ∧ isAt s (p + 1 + (dig n 40 (tl s (p + 1))).length) 40 = true ∧
      isAt s (p + 1 + (dig n 40 (tl s (p + 1))).length + 1 + (dig n (40 - (dig n 40 (tl s (p + 1))).length) (tl s (p + 1 + (dig n 40 (tl s (p + 1))).length + 1))).length) 41 = true ∧
      isAt s (p + 1 + (dig n 40 (tl s (p + 1))).length + 1 + (dig n (40 - (dig n 40 (tl s (p + 1))).length) (tl s (p + 1 + (dig n 40 (tl s (p + 1))).length + 1))).length + 1) 93 = true ∧
      dig n (40 - (dig n 40 (tl s (p + 1))).length) (tl s (p + 1 + (dig n 40 (tl s (p + 1))).length + 1)) ≠ [] then
    some (dig n 40 (tl s (p + 1)) ++ dig n (40 - (dig n 40 (tl s (p + 1))).length) (tl s (p + 1 + (dig n 40 (tl s (p + 1))).length + 1)), (dig n 40 (tl s (p + 1))).length,
      p + 1 + (dig n 40 (tl s (p + 1))).length + 1 + (dig n (40 - (dig n 40 (tl s (p + 1))).length) (tl s (p + 1 + (dig n 40 (tl s (p + 1))).length + 1))).length + 2)
  else none

/-- the listed place that comes behind -/
def nxt (n fr k : Nat) : Nat := if k + 1 = n then fr else k + 1
/-- the steps at the first k places are edges -/
def stepsL (G : Gph) (ls : List Nat) (fr k : Nat) : Bool := (List.range k).all fun j => G.e (ls.getD j 0) (ls.getD (nxt ls.length fr j) 0)
/-- the mark is met at one of the places from fr on, below k -/
def metL (G : Gph) (ls : List Nat) (fr f k : Nat) : Bool := (List.range k).any fun j => decide (fr ≤ j) && G.m (ls.getD j 0) f
/-- it goes along edges, and is fair -/
def goesL (G : Gph) (fs : List Nat) (ls : List Nat) (fr : Nat) : Bool := stepsL G ls fr ls.length && fs.all fun f => metL G ls fr f ls.length

theorem stepsL_succ (G : Gph) (ls : List Nat) (fr k : Nat) : stepsL G ls fr (k + 1) = (stepsL G ls fr k && G.e (ls.getD k 0) (ls.getD (nxt ls.length fr k) 0)) := by
  simp [stepsL, List.range_succ]
theorem metL_succ (G : Gph) (ls : List Nat) (fr f k : Nat) : metL G ls fr f (k + 1) = (metL G ls fr f k || (decide (fr ≤ k) && G.m (ls.getD k 0) f)) := by
  simp [metL, List.range_succ]

/-- a fair lasso from a state -/
def lasG (G : Gph) (fs : List Nat) (s : ByteArray) (i p : Nat) : Option (List Nat × Nat × Nat) :=
  match las G.n s p with
  | none => none
  | some x => if x.1.getD 0 0 = i ∧ goesL G fs x.1 x.2.1 = true then some x else none

/-- certificates behind commas, one for each state of the list, as far as there are commas: how many, and the place behind -/
def plc (f : Nat → Nat → Option Nat) (s : ByteArray) : List Nat → Nat → Option (Nat × Nat)
  | [], p => some (0, p)
  | x :: r, p =>
    if isAt s p 44 = true then
      match f x (p + 1) with
      | none => none
      | some q =>
        match plc f s r q with
        | none => none
        | some y => some (y.1 + 1, y.2)
    else some (0, p)

/-- T or a letter, or one with ! ahead -/
def soB (G : Gph) : Fm → Nat → Bool
  | .nil, _ => false
  | .node sg _ _ l _, i => if sg = 33 then !(soB G l i) else decide (sg = 84) || G.m i sg

/-- the place behind the certificate that begins at p, if one does -/
def rep (G : Gph) (fs : List Nat) (s : ByteArray) : Fm → Nat → Nat → Option Nat
  | .nil, _, _ => none
  | .node sg wy u l r, i, p =>
    if sg = 38 then
      if isAt s p 38 = true then
        match rep G fs s l i (p + 1) with
        | none => none
        | some q => rep G fs s r i q
      else none
    else if sg = 43 then
      if isAt s p 60 = true then rep G fs s l i (p + 1)
      else if isAt s p 62 = true then rep G fs s r i (p + 1)
      else none
    else if sg = 88 then
      match lasG G fs s i p with
      | none => none
      | some x => rep G fs s l (x.1.getD (nxt x.1.length x.2.1 0) 0) x.2.2
    else if sg = 85 then
      match lasG G fs s i p with
      | none => none
      | some x =>
        match plc (rep G fs s l) s x.1 x.2.2 with
        | none => none
        | some y => if y.1 < x.1.length ∧ isAt s y.2 45 = true then rep G fs s r (x.1.getD y.1 0) (y.2 + 1) else none
    else if sg = 82 then
      match lasG G fs s i p with
      | none => none
      | some x =>
        match plc (rep G fs s r) s x.1 x.2.2 with
        | none => none
        | some y =>
          if y.1 = 0 then none
          else if isAt s y.2 111 = true then (if y.1 = x.1.length then some (y.2 + 1) else none)
          else if isAt s y.2 45 = true then rep G fs s l (x.1.getD (y.1 - 1) 0) (y.2 + 1)
          else none
    else if isAt s p 46 = true ∧ soB G (.node sg wy u l r) i = true then some (p + 1) else none

/-! ### What a lasso's form says -/
theorem las_some {n : Nat} {s : ByteArray} {p : Nat} {x : List Nat × Nat × Nat} (h : las n s p = some x) :
    x.2.1 < x.1.length ∧ x.1.length ≤ 40 ∧ (∀ y ∈ x.1, y < n) ∧ p < x.2.2 ∧ x.2.2 ≤ s.size := by
  unfold las at h
  split at h
  · rename_i hc
    injection h with h
    subst h
    obtain ⟨_, _, _, h4, h5⟩ := hc
    have h6 := isAt_lt h4
    have q1 := dig_le n 40 (tl s (p + 1))
    have q2 := dig_le n (40 - (dig n 40 (tl s (p + 1))).length) (tl s (p + 1 + (dig n 40 (tl s (p + 1))).length + 1))
    have q3 := List.length_pos_iff.2 h5
    refine ⟨?_, ?_, ?_, ?_, ?_⟩
    · simp only [List.length_append]; omega
    · simp only [List.length_append]; omega
    · intro y hy
      rcases List.mem_append.1 hy with hy | hy
      · exact dig_lt n _ _ y hy
      · exact dig_lt n _ _ y hy
    · show p < _ ; dsimp only; omega
    · show _ ≤ s.size; dsimp only; omega
  · cases h

theorem lasG_some {G : Gph} {fs : List Nat} {s : ByteArray} {i p : Nat} {x : List Nat × Nat × Nat} (h : lasG G fs s i p = some x) :
    las G.n s p = some x ∧ x.1.getD 0 0 = i ∧ goesL G fs x.1 x.2.1 = true := by
  unfold lasG at h
  split at h
  · cases h
  · rename_i y hy
    split at h
    · rename_i hc
      injection h with h
      subst h
      exact ⟨hy, hc.1, hc.2⟩
    · cases h

theorem plc_some {f : Nat → Nat → Option Nat} {s : ByteArray} (hf : ∀ x p q, p ≤ s.size → f x p = some q → p < q ∧ q ≤ s.size) : ∀ (ls : List Nat) (p : Nat) (y : Nat × Nat), p ≤ s.size → plc f s ls p = some y → y.1 ≤ ls.length ∧ p ≤ y.2 ∧ y.2 ≤ s.size := by
  intro ls
  induction ls with
  | nil => intro p y hp h; unfold plc at h; injection h with h; subst h; exact ⟨Nat.le_refl _, Nat.le_refl _, hp⟩
  | cons x r ih =>
    intro p y hp h
    unfold plc at h
    split at h
    · rename_i hc
      split at h
      · cases h
      · rename_i q hq
        split at h
        · cases h
        · rename_i z hz
          injection h with h
          subst h
          have h1 := hf x (p + 1) q (isAt_lt hc) hq
          have h2 := ih q z h1.2 hz
          exact ⟨by simp; omega, by show p ≤ z.2; omega, h2.2.2⟩
    · injection h with h
      subst h
      exact ⟨Nat.zero_le _, Nat.le_refl _, hp⟩

/-- a certificate is not empty, and ends within the text -/
theorem rep_some {G : Gph} {fs : List Nat} {s : ByteArray} : ∀ (t : Fm) (i p q : Nat), p ≤ s.size → rep G fs s t i p = some q → p < q ∧ q ≤ s.size := by
  intro t
  induction t with
  | nil => intro i p q hp h; simp [rep] at h
  | node sg wy u l r ihl ihr =>
    intro i p q hp h
    unfold rep at h
    split at h
    · split at h
      · rename_i hc
        have h0 := isAt_lt hc
        split at h
        · cases h
        · rename_i m hm
          have h1 := ihl i (p + 1) m h0 hm
          have h2 := ihr i m q h1.2 h
          omega
      · cases h
    · split at h
      · split at h
        · rename_i hc
          have h0 := isAt_lt hc
          have h1 := ihl i (p + 1) q h0 h
          omega
        · split at h
          · rename_i hc
            have h0 := isAt_lt hc
            have h1 := ihr i (p + 1) q h0 h
            omega
          · cases h
      · split at h
        · split at h
          · cases h
          · rename_i x hx
            have h1 := las_some (lasG_some hx).1
            have h2 := ihl _ _ q h1.2.2.2.2 h
            omega
        · split at h
          · split at h
            · cases h
            · rename_i x hx
              have h1 := las_some (lasG_some hx).1
              split at h
              · cases h
              · rename_i y hy
                have h2 := plc_some (fun a b c hb => ihl a b c hb) x.1 x.2.2 y h1.2.2.2.2 hy
                split at h
                · rename_i hc
                  have h0 := isAt_lt hc.2
                  have h3 := ihr _ (y.2 + 1) q h0 h
                  omega
                · cases h
          · split at h
            · split at h
              · cases h
              · rename_i x hx
                have h1 := las_some (lasG_some hx).1
                split at h
                · cases h
                · rename_i y hy
                  have h2 := plc_some (fun a b c hb => ihr a b c hb) x.1 x.2.2 y h1.2.2.2.2 hy
                  split at h
                  · cases h
                  · split at h
                    · rename_i hc
                      have h0 := isAt_lt hc
                      split at h
                      · injection h with h; omega
                      · cases h
                    · split at h
                      · rename_i hc
                        have h0 := isAt_lt hc
                        have h3 := ihl _ (y.2 + 1) q h0 h
                        omega
                      · cases h
            · split at h
              · rename_i hc
                have h0 := isAt_lt hc.1
                injection h with h
                omega
              · cases h

end Go.Proofs.Ytcfbfdjmcabnkaa.Fw

/- P9: what a certificate shows is so. Nothing of the dump. -/
namespace Go.Proofs.Ytcfbfdjmcabnkaa
open Fw
open Go.Deep (BT)
set_option linter.unusedVariables false

variable {G : Gph} {fs : List Nat}

/-- pushed, and without A -/
def shw : Fm → Prop
  | .nil => False
  | .node sg wy _ l r =>
    if sg = 33 then ∃ c, isAtom c = true ∧ l = .node c 0 () .nil .nil
    else if sg = 38 ∨ sg = 43 then shw l ∧ shw r
    else if sg = 88 then wy = 69 ∧ shw l
    else if sg = 85 ∨ sg = 82 then wy = 69 ∧ shw l ∧ shw r
    else isAtom sg = true

theorem push_shw : ∀ (t : Fm), good t → ∀ neg, (∀ c ∈ push t neg, ¬ c.toNat = 65) → shw (pushT t neg) := by
  intro t
  induction t with
  | nil => intro h; exact absurd h (by simp [good])
  | node sg wy u l r ihl ihr =>
    intro h neg hA
    rcases good_cases h with ⟨c, e, hc, ht⟩ | ⟨x, e, hx, ht⟩ | ⟨s, x, y, e, hs, hx, hy, ht⟩ | ⟨v, x, e, hv, hx, ht⟩ | ⟨s, v, x, y, e, hs, hv, hx, hy, ht⟩
    · rw [e, pushT_atom hc]
      have hc' := hc
      simp only [isAtom, decide_eq_true_eq] at hc'
      cases neg with
      | true =>
        rw [if_pos rfl, shw, if_pos rfl]
        exact ⟨c, hc, rfl⟩
      | false =>
        rw [if_neg (by simp), shw, if_neg (by omega), if_neg (by omega), if_neg (by omega), if_neg (by omega)]
        exact hc
    · injection e with e3 e0 _ e1 e2
      subst e3 e0 e1 e2
      rw [push_not] at hA
      rw [pushT_not]
      exact ihl hx _ hA
    · injection e with e3 e0 _ e1 e2
      subst e3 e0 e1 e2
      rw [push_bin hs] at hA
      rw [pushT_bin hs]
      have := tn_bin hs neg
      rw [shw, if_neg (by omega), if_pos this]
      exact ⟨ihl hx _ fun c hc => hA c (by simp [hc]), ihr hy _ fun c hc => hA c (by simp [hc])⟩
    · injection e with e3 e0 _ e1 e2
      subst e3 e0 e1 e2
      rw [push_x] at hA
      rw [pushT_x]
      have h1 := tn_wy hv neg
      have h2 := hA (b8 (tn neg wy)) (by simp)
      rw [b8_nat (by omega)] at h2
      rw [shw, if_neg (by omega), if_neg (by omega), if_pos rfl]
      exact ⟨by omega, ihl hx _ fun c hc => hA c (by simp [hc])⟩
    · injection e with e3 e0 _ e1 e2
      subst e3 e0 e1 e2
      rw [push_way hs] at hA
      rw [pushT_way hs]
      have h0 := tn_ur hs neg
      have h1 := tn_wy hv neg
      have h2 := hA (b8 (tn neg wy)) (by simp)
      rw [b8_nat (by omega)] at h2
      rw [shw, if_neg (by omega), if_neg (by omega), if_neg (by omega), if_pos h0]
      exact ⟨by omega, ihl hx _ fun c hc => hA c (by simp [hc]), ihr hy _ fun c hc => hA c (by simp [hc])⟩

/-! ### A lasso is a way -/
/-- the listed place that place k is like -/
def pos (n fr : Nat) : Nat → Nat
  | 0 => 0
  | k + 1 => nxt n fr (pos n fr k)

theorem nxt_lt {n fr k : Nat} (hf : fr < n) (hk : k < n) : nxt n fr k < n := by unfold nxt; split <;> omega
theorem pos_lt {n fr : Nat} (hf : fr < n) : ∀ k, pos n fr k < n := by
  intro k
  induction k with
  | zero => show 0 < n; omega
  | succ k ih => exact nxt_lt hf ih
theorem pos_low {n fr : Nat} : ∀ k, k < n → pos n fr k = k := by
  intro k
  induction k with
  | zero => intro _; rfl
  | succ k ih => intro hk; show nxt n fr (pos n fr k) = _; rw [ih (by omega)]; unfold nxt; rw [if_neg (by omega)]
theorem pos_from {n fr : Nat} {a : Nat} (h : pos n fr a = fr) : ∀ j, fr + j < n → pos n fr (a + j) = fr + j := by
  intro j
  induction j with
  | zero => intro _; exact h
  | succ j ih => intro hj; show nxt n fr (pos n fr (a + j)) = _; rw [ih (by omega)]; unfold nxt; rw [if_neg (by omega)]; rfl
theorem pos_round {n fr : Nat} (hf : fr < n) : ∀ a, ∃ k, a ≤ k ∧ pos n fr k = fr := by
  intro a
  induction a with
  | zero => exact ⟨fr, by omega, pos_low fr hf⟩
  | succ a ih =>
    obtain ⟨k, hk, hp⟩ := ih
    have h1 := pos_from hp (n - fr - 1) (by omega)
    refine ⟨k + (n - fr - 1) + 1, by omega, ?_⟩
    show nxt n fr (pos n fr (k + (n - fr - 1))) = fr
    rw [h1]
    unfold nxt
    rw [if_pos (by omega)]

theorem lasso_way {ls : List Nat} {fr : Nat} (hf : fr < ls.length) (hg : goesL G fs ls fr = true) : FWay G fs (ls.getD 0 0) (fun k => ls.getD (pos ls.length fr k) 0) := by
  unfold goesL at hg
  rw [Bool.and_eq_true] at hg
  obtain ⟨h1, h2⟩ := hg
  refine ⟨rfl, ?_, ?_⟩
  · intro k
    unfold stepsL at h1
    rw [List.all_eq_true] at h1
    exact h1 (pos ls.length fr k) (List.mem_range.2 (pos_lt hf k))
  · intro f hfs N
    rw [List.all_eq_true] at h2
    have h3 := h2 f hfs
    unfold metL at h3
    rw [List.any_eq_true] at h3
    obtain ⟨j, hj, hm⟩ := h3
    rw [List.mem_range] at hj
    rw [Bool.and_eq_true, decide_eq_true_eq] at hm
    obtain ⟨k, hk, hp⟩ := pos_round hf N
    have h4 := pos_from hp (j - fr) (by omega)
    refine ⟨k + (j - fr), by omega, ?_⟩
    show G.m (ls.getD (pos ls.length fr (k + (j - fr))) 0) f = true
    rw [h4, show fr + (j - fr) = j from by omega]
    exact hm.2

theorem plc_each {f : Nat → Nat → Option Nat} {s : ByteArray} : ∀ (ls : List Nat) (p : Nat) (y : Nat × Nat), plc f s ls p = some y → ∀ j, j < y.1 → ∃ a b, f (ls.getD j 0) a = some b := by
  intro ls
  induction ls with
  | nil => intro p y h; unfold plc at h; injection h with h; subst h; intro j hj; simp at hj
  | cons x r ih =>
    intro p y h
    unfold plc at h
    split at h
    · split at h
      · cases h
      · rename_i q hq
        split at h
        · cases h
        · rename_i z hz
          injection h with h
          subst h
          intro j hj
          cases j with
          | zero => exact ⟨p + 1, q, by simpa using hq⟩
          | succ j =>
            obtain ⟨a, b, hab⟩ := ih q z hz j (by simpa using hj)
            exact ⟨a, b, by simpa using hab⟩
    · injection h with h
      subst h
      intro j hj
      simp at hj

theorem plc_count {f : Nat → Nat → Option Nat} {s : ByteArray} : ∀ (ls : List Nat) (p : Nat) (y : Nat × Nat), plc f s ls p = some y → y.1 ≤ ls.length := by
  intro ls
  induction ls with
  | nil => intro p y h; unfold plc at h; injection h with h; subst h; exact Nat.le_refl _
  | cons x r ih =>
    intro p y h
    unfold plc at h
    split at h
    · split at h
      · cases h
      · split at h
        · cases h
        · rename_i z hz
          injection h with h
          subst h
          have := ih _ z hz
          show z.1 + 1 ≤ r.length + 1
          omega
    · injection h with h
      subst h
      exact Nat.zero_le _

/-- WHAT A CERTIFICATE SHOWS IS SO -/
theorem rep_sound {s : ByteArray} : ∀ (t : Fm), shw t → ∀ (i p q : Nat), rep G fs s t i p = some q → sat G fs t i := by
  intro t
  induction t with
  | nil => intro h; exact absurd h (by simp [shw])
  | node sg wy u l r ihl ihr =>
    intro h i p q hr
    cases u
    unfold rep at hr
    unfold shw at h
    split at hr
    · rename_i e
      subst e
      rw [if_neg (by omega), if_pos (by omega)] at h
      rw [sat_and]
      split at hr
      · split at hr
        · cases hr
        · rename_i m hm
          exact ⟨ihl h.1 _ _ _ hm, ihr h.2 _ _ _ hr⟩
      · cases hr
    · rename_i n38
      split at hr
      · rename_i e
        subst e
        rw [if_neg (by omega), if_pos (by omega)] at h
        rw [sat_or]
        split at hr
        · exact .inl (ihl h.1 _ _ _ hr)
        · split at hr
          · exact .inr (ihr h.2 _ _ _ hr)
          · cases hr
      · rename_i n43
        split at hr
        · rename_i e
          subst e
          rw [if_neg (by omega), if_neg (by omega), if_pos rfl] at h
          rw [sat_way (.inl rfl), if_pos h.1]
          split at hr
          · cases hr
          · rename_i x hx
            have g := lasG_some hx
            have k := las_some g.1
            refine ⟨_, by rw [← g.2.1]; exact lasso_way k.1 g.2.2, ?_⟩
            exact ihl h.2 _ _ _ hr
        · rename_i n88
          split at hr
          · rename_i e
            subst e
            rw [if_neg (by omega), if_neg (by omega), if_neg (by omega), if_pos (by omega)] at h
            rw [sat_way (.inr (.inl rfl)), if_pos h.1]
            split at hr
            · cases hr
            · rename_i x hx
              have g := lasG_some hx
              have k := las_some g.1
              split at hr
              · cases hr
              · rename_i y hy
                split at hr
                · rename_i hc
                  refine ⟨_, by rw [← g.2.1]; exact lasso_way k.1 g.2.2, ?_⟩
                  refine ⟨y.1, ?_, fun j hj => ?_⟩
                  · show sat G fs r (x.1.getD (pos x.1.length x.2.1 y.1) 0)
                    rw [pos_low _ hc.1]
                    exact ihr h.2.2 _ _ _ hr
                  · show sat G fs l (x.1.getD (pos x.1.length x.2.1 j) 0)
                    rw [pos_low _ (by omega)]
                    obtain ⟨a, b, hab⟩ := plc_each _ _ _ hy j hj
                    exact ihl h.2.1 _ _ _ hab
                · cases hr
          · rename_i n85
            split at hr
            · rename_i e
              subst e
              rw [if_neg (by omega), if_neg (by omega), if_neg (by omega), if_pos (by omega)] at h
              rw [sat_way (.inr (.inr rfl)), if_pos h.1]
              split at hr
              · cases hr
              · rename_i x hx
                have g := lasG_some hx
                have k := las_some g.1
                split at hr
                · cases hr
                · rename_i y hy
                  have hcn := plc_count _ _ _ hy
                  have hall : ∀ j, j < y.1 → sat G fs r (x.1.getD j 0) := fun j hj => by
                    obtain ⟨a, b, hab⟩ := plc_each _ _ _ hy j hj
                    exact ihr h.2.2 _ _ _ hab
                  split at hr
                  · cases hr
                  · rename_i h0
                    refine ⟨_, by rw [← g.2.1]; exact lasso_way k.1 g.2.2, ?_⟩
                    split at hr
                    · split at hr
                      · rename_i hy1
                        exact .inl fun j => hall _ (by have := pos_lt k.1 j; omega)
                      · cases hr
                    · split at hr
                      · refine .inr ⟨y.1 - 1, ?_, fun j hj => ?_⟩
                        · show sat G fs l (x.1.getD (pos x.1.length x.2.1 (y.1 - 1)) 0)
                          rw [pos_low _ (by omega)]
                          exact ihl h.2.1 _ _ _ hr
                        · show sat G fs r (x.1.getD (pos x.1.length x.2.1 j) 0)
                          rw [pos_low _ (by omega)]
                          exact hall j (by omega)
                      · cases hr
            · rename_i n82
              split at hr
              · rename_i hc
                obtain ⟨_, hs⟩ := hc
                split at h
                · rename_i e
                  subst e
                  obtain ⟨c, hcA, rfl⟩ := h
                  have e1 : soB G (.node 33 wy () (.node c 0 () .nil .nil) r) i = !(soB G (.node c 0 () .nil .nil) i) := by rw [soB, if_pos rfl]
                  rw [e1] at hs
                  have hc' := hcA
                  simp only [isAtom, decide_eq_true_eq] at hc'
                  rw [sat, if_pos rfl, sat_atom_is hcA]
                  rw [soB, if_neg (by omega)] at hs
                  simpa using hs
                · rename_i n33
                  rw [soB, if_neg n33] at hs
                  rw [sat, if_neg n33, if_neg n38, if_neg n43, if_neg n88, if_neg n85, if_neg n82]
                  by_cases e84 : sg = 84
                  · rw [if_pos e84]; trivial
                  · rw [if_neg e84]; simpa [e84] using hs
              · cases hr

end Go.Proofs.Ytcfbfdjmcabnkaa

/- The rules of rep, one by one. -/
namespace Go.Proofs.Ytcfbfdjmcabnkaa
open Fw
open Go.Deep (BT)
set_option linter.unusedVariables false

section
variable {G : Gph} {fs : List Nat} {s : ByteArray} {wy st p : Nat} {u : Unit} {l r : Fm}

theorem rep_and0 (h : isAt s p 38 = false) : rep G fs s (.node 38 wy u l r) st p = none := by rw [rep, if_pos rfl, if_neg (by rw [h]; simp)]
theorem rep_and1 (h : isAt s p 38 = true) (h1 : rep G fs s l st (p + 1) = none) : rep G fs s (.node 38 wy u l r) st p = none := by rw [rep, if_pos rfl, if_pos h, h1]
theorem rep_and2 {q : Nat} (h : isAt s p 38 = true) (h1 : rep G fs s l st (p + 1) = some q) : rep G fs s (.node 38 wy u l r) st p = rep G fs s r st q := by rw [rep, if_pos rfl, if_pos h, h1]
theorem rep_or1 (h : isAt s p 60 = true) : rep G fs s (.node 43 wy u l r) st p = rep G fs s l st (p + 1) := by rw [rep, if_neg (by omega), if_pos rfl, if_pos h]
theorem rep_or2 (h : isAt s p 60 = false) (h2 : isAt s p 62 = true) : rep G fs s (.node 43 wy u l r) st p = rep G fs s r st (p + 1) := by rw [rep, if_neg (by omega), if_pos rfl, if_neg (by rw [h]; simp), if_pos h2]
theorem rep_or0 (h : isAt s p 60 = false) (h2 : isAt s p 62 = false) : rep G fs s (.node 43 wy u l r) st p = none := by rw [rep, if_neg (by omega), if_pos rfl, if_neg (by rw [h]; simp), if_neg (by rw [h2]; simp)]
theorem rep_x0 (h : lasG G fs s st p = none) : rep G fs s (.node 88 wy u l r) st p = none := by rw [rep, if_neg (by omega), if_neg (by omega), if_pos rfl, h]
theorem rep_x1 {x : List Nat × Nat × Nat} (h : lasG G fs s st p = some x) : rep G fs s (.node 88 wy u l r) st p = rep G fs s l (x.1.getD (nxt x.1.length x.2.1 0) 0) x.2.2 := by rw [rep, if_neg (by omega), if_neg (by omega), if_pos rfl, h]
theorem rep_u0 (h : lasG G fs s st p = none) : rep G fs s (.node 85 wy u l r) st p = none := by rw [rep, if_neg (by omega), if_neg (by omega), if_neg (by omega), if_pos rfl, h]
theorem rep_u1 {x : List Nat × Nat × Nat} (h : lasG G fs s st p = some x) (h2 : plc (rep G fs s l) s x.1 x.2.2 = none) : rep G fs s (.node 85 wy u l r) st p = none := by rw [rep, if_neg (by omega), if_neg (by omega), if_neg (by omega), if_pos rfl, h]; simp only [h2]
theorem rep_u2 {x : List Nat × Nat × Nat} {y : Nat × Nat} (h : lasG G fs s st p = some x) (h2 : plc (rep G fs s l) s x.1 x.2.2 = some y) (h3 : ¬ (y.1 < x.1.length ∧ isAt s y.2 45 = true)) : rep G fs s (.node 85 wy u l r) st p = none := by
  rw [rep, if_neg (by omega), if_neg (by omega), if_neg (by omega), if_pos rfl, h]; simp only [h2]; exact if_neg h3
theorem rep_u3 {x : List Nat × Nat × Nat} {y : Nat × Nat} (h : lasG G fs s st p = some x) (h2 : plc (rep G fs s l) s x.1 x.2.2 = some y) (h3 : y.1 < x.1.length ∧ isAt s y.2 45 = true) : rep G fs s (.node 85 wy u l r) st p = rep G fs s r (x.1.getD y.1 0) (y.2 + 1) := by
  rw [rep, if_neg (by omega), if_neg (by omega), if_neg (by omega), if_pos rfl, h]; simp only [h2]; exact if_pos h3
theorem rep_r0 (h : lasG G fs s st p = none) : rep G fs s (.node 82 wy u l r) st p = none := by rw [rep, if_neg (by omega), if_neg (by omega), if_neg (by omega), if_neg (by omega), if_pos rfl, h]
theorem rep_r1 {x : List Nat × Nat × Nat} (h : lasG G fs s st p = some x) (h2 : plc (rep G fs s r) s x.1 x.2.2 = none) : rep G fs s (.node 82 wy u l r) st p = none := by rw [rep, if_neg (by omega), if_neg (by omega), if_neg (by omega), if_neg (by omega), if_pos rfl, h]; simp only [h2]
theorem rep_r2 {x : List Nat × Nat × Nat} {y : Nat × Nat} (h : lasG G fs s st p = some x) (h2 : plc (rep G fs s r) s x.1 x.2.2 = some y) (h3 : y.1 = 0) : rep G fs s (.node 82 wy u l r) st p = none := by
  rw [rep, if_neg (by omega), if_neg (by omega), if_neg (by omega), if_neg (by omega), if_pos rfl, h]; simp only [h2]; exact if_pos h3
theorem rep_r3 {x : List Nat × Nat × Nat} {y : Nat × Nat} (h : lasG G fs s st p = some x) (h2 : plc (rep G fs s r) s x.1 x.2.2 = some y) (h3 : ¬ y.1 = 0) (h4 : isAt s y.2 111 = true) (h5 : y.1 = x.1.length) : rep G fs s (.node 82 wy u l r) st p = some (y.2 + 1) := by
  rw [rep, if_neg (by omega), if_neg (by omega), if_neg (by omega), if_neg (by omega), if_pos rfl, h]; simp only [h2]; rw [if_neg h3, if_pos h4, if_pos h5]
theorem rep_r4 {x : List Nat × Nat × Nat} {y : Nat × Nat} (h : lasG G fs s st p = some x) (h2 : plc (rep G fs s r) s x.1 x.2.2 = some y) (h3 : ¬ y.1 = 0) (h4 : isAt s y.2 111 = true) (h5 : ¬ y.1 = x.1.length) : rep G fs s (.node 82 wy u l r) st p = none := by
  rw [rep, if_neg (by omega), if_neg (by omega), if_neg (by omega), if_neg (by omega), if_pos rfl, h]; simp only [h2]; rw [if_neg h3, if_pos h4, if_neg h5]
theorem rep_r5 {x : List Nat × Nat × Nat} {y : Nat × Nat} (h : lasG G fs s st p = some x) (h2 : plc (rep G fs s r) s x.1 x.2.2 = some y) (h3 : ¬ y.1 = 0) (h4 : isAt s y.2 111 = false) (h5 : isAt s y.2 45 = true) : rep G fs s (.node 82 wy u l r) st p = rep G fs s l (x.1.getD (y.1 - 1) 0) (y.2 + 1) := by
  rw [rep, if_neg (by omega), if_neg (by omega), if_neg (by omega), if_neg (by omega), if_pos rfl, h]; simp only [h2]; rw [if_neg h3, if_neg (by rw [h4]; simp), if_pos h5]
theorem rep_r6 {x : List Nat × Nat × Nat} {y : Nat × Nat} (h : lasG G fs s st p = some x) (h2 : plc (rep G fs s r) s x.1 x.2.2 = some y) (h3 : ¬ y.1 = 0) (h4 : isAt s y.2 111 = false) (h5 : isAt s y.2 45 = false) : rep G fs s (.node 82 wy u l r) st p = none := by
  rw [rep, if_neg (by omega), if_neg (by omega), if_neg (by omega), if_neg (by omega), if_pos rfl, h]; simp only [h2]; rw [if_neg h3, if_neg (by rw [h4]; simp), if_neg (by rw [h5]; simp)]
/-- T, a letter, or ! ahead of one -/
theorem rep_leaf {sg : Nat} (h : sg ≠ 38 ∧ sg ≠ 43 ∧ sg ≠ 88 ∧ sg ≠ 85 ∧ sg ≠ 82) : rep G fs s (.node sg wy u l r) st p = if isAt s p 46 = true ∧ soB G (.node sg wy u l r) st = true then some (p + 1) else none := by
  rw [rep, if_neg h.1, if_neg h.2.1, if_neg h.2.2.1, if_neg h.2.2.2.1, if_neg h.2.2.2.2]
end

/-! ### The places -/
def addK (k : Nat) : Option (Nat × Nat) → Option (Nat × Nat)
  | none => none
  | some y => some (y.1 + k, y.2)
/-- how far passing places has come -/
def PlcInv (F : Nat → Nat → Option Nat) (s : ByteArray) (ls : List Nat) (p k q : Nat) : Prop := plc F s ls p = addK k (plc F s (ls.drop k) q)
theorem PlcInv.start (F : Nat → Nat → Option Nat) (s : ByteArray) (ls : List Nat) (p : Nat) : PlcInv F s ls p 0 p := by
  unfold PlcInv
  rw [List.drop_zero]
  cases plc F s ls p <;> rfl
theorem drop_at {ls : List Nat} {k : Nat} (h : k < ls.length) : ls.drop k = ls.getD k 0 :: ls.drop (k + 1) := by
  rw [List.drop_eq_getElem_cons h]
  simp [List.getD, h]
theorem PlcInv.full {F : Nat → Nat → Option Nat} {s : ByteArray} {ls : List Nat} {p q : Nat} (h : PlcInv F s ls p ls.length q) : plc F s ls p = some (ls.length, q) := by
  unfold PlcInv at h
  rw [h, List.drop_length]
  simp [plc, addK]
theorem PlcInv.stop {F : Nat → Nat → Option Nat} {s : ByteArray} {ls : List Nat} {p k q : Nat} (h : PlcInv F s ls p k q) (hk : k < ls.length) (ha : isAt s q 44 = false) : plc F s ls p = some (k, q) := by
  unfold PlcInv at h
  rw [h, drop_at hk, plc, if_neg (by rw [ha]; simp)]
  simp [addK]
theorem PlcInv.bad {F : Nat → Nat → Option Nat} {s : ByteArray} {ls : List Nat} {p k q : Nat} (h : PlcInv F s ls p k q) (hk : k < ls.length) (ha : isAt s q 44 = true) (hf : F (ls.getD k 0) (q + 1) = none) : plc F s ls p = none := by
  unfold PlcInv at h
  rw [h, drop_at hk, plc, if_pos ha, hf]
  rfl
theorem PlcInv.step {F : Nat → Nat → Option Nat} {s : ByteArray} {ls : List Nat} {p k q m : Nat} (h : PlcInv F s ls p k q) (hk : k < ls.length) (ha : isAt s q 44 = true) (hf : F (ls.getD k 0) (q + 1) = some m) : PlcInv F s ls p (k + 1) m := by
  unfold PlcInv at h ⊢
  rw [h, drop_at hk, plc, if_pos ha, hf]
  simp only
  cases plc F s (ls.drop (k + 1)) m with
  | none => rfl
  | some y => simp [addK]; omega

end Go.Proofs.Ytcfbfdjmcabnkaa

