/- SETS OF STATES AS THE PROGRAM RECKONS THEM. Nothing of the dump. -/
import Derived.Test.YtkjnhhbibaimfaaWays
namespace Go.Proofs.Ytkjnhhbibaimfaa.Fw
open Go.Deep (BT)
set_option linter.unusedVariables false

/-! ### Short walks -/
theorem pigeon : ∀ (n : Nat) (f : Nat → Nat), (∀ k, k ≤ n → f k < n) → ∃ i j, i < j ∧ j ≤ n ∧ f i = f j := by
  intro n
  induction n with
  | zero => intro f h; exact absurd (h 0 (Nat.le_refl _)) (by omega)
  | succ n ih =>
    intro f h
    by_cases hx : ∃ i, i ≤ n ∧ f i = f (n + 1)
    · obtain ⟨i, hi, he⟩ := hx
      exact ⟨i, n + 1, by omega, Nat.le_refl _, he⟩
    · have hne : ∀ i, i ≤ n → f i ≠ f (n + 1) := fun i hi he => hx ⟨i, hi, he⟩
      obtain ⟨i, j, hij, hj, he⟩ := ih (fun k => if f k = n then f (n + 1) else f k) (by
        intro k hk
        have h1 := h k (by omega)
        have h2 := h (n + 1) (Nat.le_refl _)
        have h3 := hne k hk
        show (if f k = n then f (n + 1) else f k) < n
        split <;> omega)
      refine ⟨i, j, hij, by omega, ?_⟩
      have h1 := hne i (by omega)
      have h2 := hne j (by omega)
      split at he <;> split at he <;> omega

/-- a walk without what lies between two equal places -/
theorem walk_cut1 {e : Nat → Nat → Bool} {S : Nat → Prop} {i j m a b : Nat} {p : Nat → Nat} (h : Walk e S i j m p) (hab : a < b) (hb : b ≤ m) (he : p a = p b) :
    ∃ p', Walk e S i j (m - (b - a)) p' := by
  obtain ⟨h0, h1, h2⟩ := h
  refine ⟨fun k => if k < a then p k else p (k + (b - a)), ?_, ?_, ?_⟩
  · show (if 0 < a then p 0 else p (0 + (b - a))) = i
    split
    · exact h0
    · have : a = 0 := by omega
      subst this
      rw [show 0 + (b - 0) = b from by omega, ← he]; exact h0
  · show (if m - (b - a) < a then p (m - (b - a)) else p (m - (b - a) + (b - a))) = j
    rw [if_neg (by omega), show m - (b - a) + (b - a) = m from by omega]; exact h1
  · intro k hk
    show S (if k < a then p k else p (k + (b - a))) ∧ e (if k < a then p k else p (k + (b - a))) (if k + 1 < a then p (k + 1) else p (k + 1 + (b - a))) = true
    by_cases h3 : k < a
    · rw [if_pos h3]
      by_cases h4 : k + 1 < a
      · rw [if_pos h4]; exact h2 k (by omega)
      · rw [if_neg h4, show k + 1 + (b - a) = b from by omega, ← he]
        have := h2 k (by omega)
        rw [show k + 1 = a from by omega] at this
        exact this
    · rw [if_neg h3, if_neg (by omega), show k + 1 + (b - a) = k + (b - a) + 1 from by omega]
      exact h2 (k + (b - a)) (by omega)

theorem walk_cut {e : Nat → Nat → Bool} {S : Nat → Prop} (ok : ∀ i j, e i j = true → i < 6 ∧ j < 6) : ∀ (m i j : Nat) (p : Nat → Nat), Walk e S i j m p → ∃ m' p', m' ≤ 5 ∧ Walk e S i j m' p' := by
  intro m
  induction m using Nat.strongRecOn with
  | ind m ih =>
    intro i j p h
    by_cases hm : m ≤ 5
    · exact ⟨m, p, hm, h⟩
    · obtain ⟨a, b, hab, hb, he⟩ := pigeon 6 p (by
        intro k hk
        exact (show p k < 6 from by
          rcases Nat.lt_or_ge k m with h1 | h1
          · exact (ok _ _ (h.2.2 k h1).2).1
          · have h2 := (ok _ _ (h.2.2 (k - 1) (by omega)).2).2
            rw [show k - 1 + 1 = k from by omega] at h2
            exact h2))
      obtain ⟨p', h'⟩ := walk_cut1 h hab (by omega) he
      exact ih (m - (b - a)) (by omega) i j p' h'

/-! ### The program's sets -/
def any6 (p : Nat → Bool) : Bool := (List.range 6).any p
theorem any6_iff {p : Nat → Bool} : any6 p = true ↔ ∃ j, j < 6 ∧ p j = true := by simp [any6, List.any_eq_true]

def ahd (e : Nat → Nat → Bool) (goal : Nat → Bool) (i : Nat) : Bool := any6 fun j => e i j && goal j
def rea (e : Nat → Nat → Bool) (a b : Nat → Bool) : Nat → Nat → Bool
  | 0, i => b i
  | k + 1, i => rea e a b k i || (a i && ahd e (rea e a b k) i)

theorem rea_walk {e : Nat → Nat → Bool} (ok : ∀ i j, e i j = true → i < 6 ∧ j < 6) {a b : Nat → Bool} : ∀ k i, rea e a b k i = true ↔ ∃ m p j, m ≤ k ∧ Walk e (fun x => a x = true) i j m p ∧ b j = true := by
  intro k
  induction k with
  | zero =>
    intro i
    constructor
    · intro h
      exact ⟨0, fun _ => i, i, Nat.le_refl _, ⟨rfl, rfl, fun k hk => by omega⟩, h⟩
    · rintro ⟨m, p, j, hm, ⟨h0, h1, _⟩, hb⟩
      have : m = 0 := by omega
      subst this
      rw [← h1, h0] at hb
      exact hb
  | succ k ih =>
    intro i
    rw [rea, Bool.or_eq_true, Bool.and_eq_true, ahd, any6_iff]
    constructor
    · rintro (h | ⟨ha, j, hj, h⟩)
      · obtain ⟨m, p, j, hm, h⟩ := (ih i).1 h
        exact ⟨m, p, j, by omega, h⟩
      · rw [Bool.and_eq_true] at h
        obtain ⟨m, p, l, hm, hw, hb⟩ := (ih j).1 h.2
        have hs : Walk e (fun x => a x = true) i j 1 (fun t => if t = 0 then i else j) := ⟨rfl, rfl, fun t ht => by
          obtain rfl : t = 0 := by omega
          exact ⟨ha, h.1⟩⟩
        exact ⟨1 + m, _, l, by omega, hs.glue hw, hb⟩
    · rintro ⟨m, p, j, hm, hw, hb⟩
      by_cases h0 : m = 0
      · exact .inl ((ih i).2 ⟨m, p, j, by omega, hw, hb⟩)
      · obtain ⟨w0, w1, w2⟩ := hw
        have hs := w2 0 (by omega)
        rw [w0] at hs
        refine .inr ⟨hs.1, p (0 + 1), (ok _ _ hs.2).2, ?_⟩
        rw [Bool.and_eq_true]
        refine ⟨hs.2, (ih _).2 ⟨m - 1, fun t => p (t + 1), j, by omega, ⟨rfl, ?_, fun t ht => w2 (t + 1) (by omega)⟩, hb⟩⟩
        show p (m - 1 + 1) = j
        rw [show m - 1 + 1 = m from by omega]; exact w1

theorem rea_iff {e : Nat → Nat → Bool} (ok : ∀ i j, e i j = true → i < 6 ∧ j < 6) {a b : Nat → Bool} {i : Nat} : rea e a b 5 i = true ↔ b i = true ∨ ∃ j, b j = true ∧ Rch e (fun x => a x = true) i j := by
  rw [rea_walk ok]
  constructor
  · rintro ⟨m, p, j, _, hw, hb⟩
    by_cases h0 : m = 0
    · subst h0
      obtain ⟨w0, w1, _⟩ := hw
      rw [← w1, w0] at hb
      exact .inl hb
    · exact .inr ⟨j, hb, m, p, by omega, hw⟩
  · rintro (h | ⟨j, hb, m, p, hm, hw⟩)
    · exact ⟨0, fun _ => i, i, by omega, ⟨rfl, rfl, fun k hk => by omega⟩, h⟩
    · obtain ⟨m', p', hm', hw'⟩ := walk_cut ok m i j p hw
      exact ⟨m', p', j, hm', hw', hb⟩

section
variable (G : Gph) (fs : List Nat)

/-- edges within a set -/
def inE (S : Nat → Bool) (i j : Nat) : Bool := G.e i j && S i && S j
/-- the table of steps within a set, behind k states -/
def stp (S : Nat → Bool) : Nat → Nat → Nat → Bool
  | 0, i, j => inE G S i j
  | k + 1, i, j => stp S k i j || (stp S k i k && stp S k k j)
def mts (T : Nat → Nat → Bool) (c f : Nat) : Bool := any6 fun d => T c d && T d c && G.m d f
def rnd (T : Nat → Nat → Bool) (c : Nat) : Bool := T c c && fs.all fun f => mts G T c f
def stayP (S : Nat → Bool) (i : Nat) : Bool := rea G.e S (rnd G fs (stp G S 6)) 5 i
def begP (i : Nat) : Bool := stayP G fs (fun _ => true) i
def someP (sg : Nat) (a b : Nat → Bool) (i : Nat) : Bool :=
  if sg = 88 then ahd G.e (fun j => a j && begP G fs j) i
  else if sg = 85 then rea G.e a (fun j => b j && begP G fs j) 5 i
  else rea G.e b (fun j => (a j && b j) && begP G fs j) 5 i || stayP G fs b i
def everyP (sg : Nat) (a b : Nat → Bool) (i : Nat) : Bool := !(someP G fs (flip sg) (fun j => !(a j)) (fun j => !(b j)) i)
def holdsP : Fm → Nat → Bool
  | .nil, _ => false
  | .node sg wy _ l r, i =>
    if sg = 33 then !(holdsP l i)
    else if sg = 38 then holdsP l i && holdsP r i
    else if sg = 43 then holdsP l i || holdsP r i
    else if sg = 88 ∨ sg = 85 ∨ sg = 82 then
      (if wy = 65 then everyP G fs sg (holdsP l) (holdsP r) i else someP G fs sg (holdsP l) (holdsP r) i)
    else if sg = 84 then true
    else G.m i sg

variable {G fs}

theorem stp_via {S : Nat → Bool} : ∀ k i j, stp G S k i j = true ↔ Via (inE G S) (fun _ => True) k i j := by
  intro k
  induction k with
  | zero => intro i j; rw [Via.zero]; simp [stp]
  | succ k ih => intro i j; rw [Via.succ, ← ih, ← ih, ← ih]; simp [stp]

theorem in_ok (ok : G.ok) (hn : G.n ≤ 6) (S : Nat → Bool) : ∀ i j, inE G S i j = true → i < 6 ∧ j < 6 := by
  intro i j h
  simp only [inE, Bool.and_eq_true] at h
  have := ok i j h.1.1
  omega
theorem e_ok (ok : G.ok) (hn : G.n ≤ 6) : ∀ i j, G.e i j = true → i < 6 ∧ j < 6 := by
  intro i j h
  have := ok i j h
  omega

/-- steps within a set: by edges of the graph, and both ends in it -/
theorem in_rch {S : Nat → Bool} {i j : Nat} : Rch (inE G S) (fun _ => True) i j ↔ Rch G.e (fun x => S x = true) i j ∧ S j = true := by
  constructor
  · rintro ⟨m, p, hm, h0, h1, h2⟩
    have hx : ∀ k, k < m → (G.e (p k) (p (k + 1)) = true ∧ S (p k) = true) ∧ S (p (k + 1)) = true := fun k hk => by
      have := (h2 k hk).2
      simpa only [inE, Bool.and_eq_true] using this
    refine ⟨⟨m, p, hm, h0, h1, fun k hk => ⟨(hx k hk).1.2, (hx k hk).1.1⟩⟩, ?_⟩
    have := (hx (m - 1) (by omega)).2
    rw [show m - 1 + 1 = m from by omega, h1] at this
    exact this
  · rintro ⟨⟨m, p, hm, h0, h1, h2⟩, hj⟩
    refine ⟨m, p, hm, h0, h1, fun k hk => ⟨trivial, ?_⟩⟩
    simp only [inE, Bool.and_eq_true]
    refine ⟨⟨(h2 k hk).2, (h2 k hk).1⟩, ?_⟩
    by_cases hl : k + 1 = m
    · rw [hl, h1]; exact hj
    · exact (h2 (k + 1) (by omega)).1

theorem stp_iff (ok : G.ok) (hn : G.n ≤ 6) {S : Nat → Bool} {i j : Nat} : stp G S 6 i j = true ↔ Rch G.e (fun x => S x = true) i j ∧ S j = true := by
  rw [stp_via, via_all (in_ok ok hn S), in_rch]

theorem rnd_iff (ok : G.ok) (hn : G.n ≤ 6) {S : Nat → Bool} {c : Nat} : rnd G fs (stp G S 6) c = true ↔ Loop G fs (fun x => S x = true) c := by
  unfold rnd Loop mts
  rw [Bool.and_eq_true, stp_iff ok hn, List.all_eq_true]
  constructor
  · rintro ⟨⟨h1, h2⟩, h3⟩
    refine ⟨h2, h1, fun f hf => ?_⟩
    obtain ⟨d, _, hd⟩ := any6_iff.1 (h3 f hf)
    rw [Bool.and_eq_true, Bool.and_eq_true, stp_iff ok hn, stp_iff ok hn] at hd
    exact ⟨d, hd.1.1.2, hd.2, hd.1.1.1, hd.1.2.1⟩
  · rintro ⟨h1, h2, h3⟩
    refine ⟨⟨h2, h1⟩, fun f hf => ?_⟩
    obtain ⟨d, h4, h5, h6, h7⟩ := h3 f hf
    refine any6_iff.2 ⟨d, ?_, ?_⟩
    · have := (rch_lt ok h7).1
      omega
    · rw [Bool.and_eq_true, Bool.and_eq_true, stp_iff ok hn, stp_iff ok hn]
      exact ⟨⟨⟨h6, h4⟩, h7, h1⟩, h5⟩

theorem stayP_iff (ok : G.ok) (hn : G.n ≤ 6) {S : Nat → Bool} {i : Nat} : stayP G fs S i = true ↔ Stay G fs (fun x => S x = true) i := by
  rw [stay_iff ok, stayP, rea_iff (e_ok ok hn)]
  constructor
  · rintro (h | ⟨j, h, hr⟩)
    · have := (rnd_iff ok hn).1 h
      exact ⟨this.1, i, .inl rfl, this⟩
    · exact ⟨hr.here, j, .inr hr, (rnd_iff ok hn).1 h⟩
  · rintro ⟨h1, c, h2, h3⟩
    rcases h2 with rfl | h2
    · exact .inl ((rnd_iff ok hn).2 h3)
    · exact .inr ⟨c, (rnd_iff ok hn).2 h3, h2⟩

theorem begP_iff (ok : G.ok) (hn : G.n ≤ 6) {i : Nat} : begP G fs i = true ↔ Live G fs i := by
  rw [begP, stayP_iff ok hn, live_stay]
  constructor
  · intro h; exact stay_mono h (fun _ _ => trivial)
  · intro h; exact stay_mono h (fun _ _ => rfl)

theorem someP_iff (ok : G.ok) (hn : G.n ≤ 6) {sg : Nat} {a b : Nat → Bool} {i : Nat} : someP G fs sg a b i = true ↔ ∃ σ, FWay G fs i σ ∧ says sg (fun x => a x = true) (fun x => b x = true) σ := by
  unfold someP says
  by_cases h1 : sg = 88
  · simp only [h1, if_true]
    rw [ex_iff (A := fun x => a x = true), ahd, any6_iff]
    constructor
    · rintro ⟨j, _, h⟩
      rw [Bool.and_eq_true, Bool.and_eq_true, begP_iff ok hn] at h
      exact ⟨j, h.1, h.2.1, h.2.2⟩
    · rintro ⟨j, h1, h2, h3⟩
      refine ⟨j, by have := live_lt ok h3; omega, ?_⟩
      rw [Bool.and_eq_true, Bool.and_eq_true, begP_iff ok hn]
      exact ⟨h1, h2, h3⟩
  · simp only [if_neg h1]
    by_cases h2 : sg = 85
    · simp only [h2, if_true]
      rw [eu_iff (A := fun x => a x = true) (B := fun x => b x = true), rea_iff (e_ok ok hn)]
      simp only [Bool.and_eq_true, begP_iff ok hn]
    · simp only [if_neg h2]
      rw [er_iff (A := fun x => a x = true) (B := fun x => b x = true), Bool.or_eq_true, rea_iff (e_ok ok hn), stayP_iff ok hn]
      simp only [Bool.and_eq_true, begP_iff ok hn]
      constructor
      · rintro (h | h)
        · exact .inr h
        · exact .inl h
      · rintro (h | h)
        · exact .inr h
        · exact .inl h

theorem some_eq (ok : G.ok) (hn : G.n ≤ 6) {sg : Nat} {a b a' b' : Nat → Bool} (ha : ∀ j, j < G.n → a j = a' j) (hb : ∀ j, j < G.n → b j = b' j) (i : Nat) : someP G fs sg a b i = someB G fs sg a' b' i := by
  rw [Bool.eq_iff_iff, someP_iff ok hn, someB_iff ok]
  have hx : ∀ σ, FWay G fs i σ → ∀ k, σ k < G.n := fun σ hσ k => (ok _ _ (hσ.step k)).1
  constructor
  · rintro ⟨σ, hσ, h⟩
    exact ⟨σ, hσ, (says_congr (fun k => by rw [ha _ (hx σ hσ k)]) (fun k => by rw [hb _ (hx σ hσ k)])).1 h⟩
  · rintro ⟨σ, hσ, h⟩
    exact ⟨σ, hσ, (says_congr (fun k => by rw [ha _ (hx σ hσ k)]) (fun k => by rw [hb _ (hx σ hσ k)])).2 h⟩

/-- WHAT THE PROGRAM RECKONS IS WHAT THE DOCUMENT'S OWN ANSWER RECKONS -/
theorem holds_eq (ok : G.ok) (hn : G.n ≤ 6) : ∀ (t : Fm), good t → ∀ i, i < G.n → holdsP G fs t i = holdsB G fs t i := by
  intro t
  induction t with
  | nil => intro h; exact absurd h (by simp [good])
  | node sg wy u l r ihl ihr =>
    intro h i hi
    rcases good_cases h with ⟨c, e, hc, ht⟩ | ⟨x, e, hx, ht⟩ | ⟨s, x, y, e, hs, hx, hy, ht⟩ | ⟨v, x, e, hv, hx, ht⟩ | ⟨s, v, x, y, e, hs, hv, hx, hy, ht⟩
    · injection e with e3 e0 _ e1 e2
      subst e3 e0 e1 e2
      simp only [isAtom, decide_eq_true_eq] at hc
      have q1 : ¬ sg = 33 := by omega
      have q2 : ¬ sg = 38 := by omega
      have q3 : ¬ sg = 43 := by omega
      have q4 : ¬ (sg = 88 ∨ sg = 85 ∨ sg = 82) := by omega
      simp only [holdsP, holdsB, if_neg q1, if_neg q2, if_neg q3, if_neg q4]
    · injection e with e3 e0 _ e1 e2
      subst e3 e0 e1 e2
      rw [holdsP, holdsB, if_pos rfl, if_pos rfl, ihl hx i hi]
    · injection e with e3 e0 _ e1 e2
      subst e3 e0 e1 e2
      rw [holdsP, holdsB, ihl hx i hi, ihr hy i hi]
      rcases hs with rfl | rfl <;> simp
    · injection e with e3 e0 _ e1 e2
      subst e3 e0 e1 e2
      have k1 : ∀ b b', someP G fs 88 (holdsP G fs l) b i = someB G fs 88 (fun j => decide (j < G.n) && holdsB G fs l j) b' i := fun b b' => by
        rw [show someP G fs 88 (holdsP G fs l) b i = someP G fs 88 (holdsP G fs l) b' i from by simp [someP]]
        exact some_eq ok hn (fun j hj => by simp [hj, ihl hx j hj]) (fun _ _ => rfl) i
      have k2 : ∀ b b', someP G fs 88 (fun j => !(holdsP G fs l j)) b i = someB G fs 88 (fun j => decide (j < G.n) && !(holdsB G fs l j)) b' i := fun b b' => by
        rw [show someP G fs 88 (fun j => !(holdsP G fs l j)) b i = someP G fs 88 (fun j => !(holdsP G fs l j)) b' i from by simp [someP]]
        exact some_eq ok hn (fun j hj => by simp [hj, ihl hx j hj]) (fun _ _ => rfl) i
      have q1 : ¬ 88 = 33 := by omega
      have q2 : ¬ 88 = 38 := by omega
      have q3 : ¬ 88 = 43 := by omega
      simp only [holdsP, holdsB, if_neg q1, if_neg q2, if_neg q3, true_or, if_true]
      rcases hv with rfl | rfl
      · rw [if_neg (by omega), if_pos rfl]; exact k1 _ _
      · rw [if_pos rfl, if_neg (by omega)]
        exact congrArg (fun x => !x) (k2 _ _)
    · injection e with e3 e0 _ e1 e2
      subst e3 e0 e1 e2
      have k1 : someP G fs sg (holdsP G fs l) (holdsP G fs r) i = someB G fs sg (fun j => decide (j < G.n) && holdsB G fs l j) (fun j => decide (j < G.n) && holdsB G fs r j) i :=
        some_eq ok hn (fun j hj => by simp [hj, ihl hx j hj]) (fun j hj => by simp [hj, ihr hy j hj]) i
      have k2 : someP G fs (flip sg) (fun j => !(holdsP G fs l j)) (fun j => !(holdsP G fs r j)) i = someB G fs (flip sg) (fun j => decide (j < G.n) && !(holdsB G fs l j)) (fun j => decide (j < G.n) && !(holdsB G fs r j)) i :=
        some_eq ok hn (fun j hj => by simp [hj, ihl hx j hj]) (fun j hj => by simp [hj, ihr hy j hj]) i
      have q1 : ¬ sg = 33 := by omega
      have q2 : ¬ sg = 38 := by omega
      have q3 : ¬ sg = 43 := by omega
      have q4 : (sg = 88 ∨ sg = 85 ∨ sg = 82) := by omega
      simp only [holdsP, holdsB, if_neg q1, if_neg q2, if_neg q3, if_pos q4]
      rcases hv with rfl | rfl
      · rw [if_neg (by omega), if_pos rfl]; exact k1
      · rw [if_pos rfl, if_neg (by omega), everyP, k2]

end
end Go.Proofs.Ytkjnhhbibaimfaa.Fw
