/- ENDLESS WAYS THROUGH A GRAPH, AND WHAT FORMULAS SAY OF THEM, in the document's own words. Nothing of the dump. -/
import Derived.Test.YtkjnhhbibaimfaaTree
namespace Go.Proofs.Ytkjnhhbibaimfaa.Fw
open Go.Deep (BT)
set_option linter.unusedVariables false

/-- a graph: how many states; its edges; which state bears which mark -/
structure Gph where
  n : Nat
  e : Nat → Nat → Bool
  m : Nat → Nat → Bool

/-- edges go between states -/
def Gph.ok (G : Gph) : Prop := ∀ i j, G.e i j = true → i < G.n ∧ j < G.n

/-- a fair way from a state -/
structure FWay (G : Gph) (fs : List Nat) (i : Nat) (σ : Nat → Nat) : Prop where
  start : σ 0 = i
  step : ∀ k, G.e (σ k) (σ (k + 1)) = true
  fair : ∀ f ∈ fs, ∀ N, ∃ k, N ≤ k ∧ G.m (σ k) f = true

/-- where a formula holds -/
def sat (G : Gph) (fs : List Nat) : Fm → Nat → Prop
  | .nil, _ => False
  | .node sg wy _ l r, i =>
    if sg = 33 then ¬ sat G fs l i
    else if sg = 38 then sat G fs l i ∧ sat G fs r i
    else if sg = 43 then sat G fs l i ∨ sat G fs r i
    else if sg = 88 then (if wy = 69 then ∃ σ, FWay G fs i σ ∧ sat G fs l (σ 1) else ∀ σ, FWay G fs i σ → sat G fs l (σ 1))
    else if sg = 85 then (if wy = 69 then ∃ σ, FWay G fs i σ ∧ ∃ k, sat G fs r (σ k) ∧ ∀ j, j < k → sat G fs l (σ j) else ∀ σ, FWay G fs i σ → ∃ k, sat G fs r (σ k) ∧ ∀ j, j < k → sat G fs l (σ j))
    else if sg = 82 then (if wy = 69 then ∃ σ, FWay G fs i σ ∧ ((∀ k, sat G fs r (σ k)) ∨ ∃ k, sat G fs l (σ k) ∧ ∀ j, j ≤ k → sat G fs r (σ j)) else ∀ σ, FWay G fs i σ → ((∀ k, sat G fs r (σ k)) ∨ ∃ k, sat G fs l (σ k) ∧ ∀ j, j ≤ k → sat G fs r (σ j)))
    else if sg = 84 then True
    else G.m i sg = true

/-! ### Finite walks -/
/-- m steps from i to j, all states but the last of S -/
def Walk (e : Nat → Nat → Bool) (S : Nat → Prop) (i j m : Nat) (p : Nat → Nat) : Prop := p 0 = i ∧ p m = j ∧ ∀ k, k < m → S (p k) ∧ e (p k) (p (k + 1)) = true

/-- one behind the other -/
def glue (m : Nat) (p q : Nat → Nat) : Nat → Nat := fun k => if k < m then p k else q (k - m)

theorem Walk.glue {e : Nat → Nat → Bool} {S : Nat → Prop} {i j k m l : Nat} {p q : Nat → Nat} (h : Walk e S i j m p) (g : Walk e S j k l q) : Walk e S i k (m + l) (Fw.glue m p q) := by
  obtain ⟨h0, h1, h2⟩ := h
  obtain ⟨g0, g1, g2⟩ := g
  refine ⟨?_, ?_, ?_⟩
  · unfold Fw.glue
    by_cases hm : 0 < m
    · rw [if_pos hm]; exact h0
    · rw [if_neg hm]
      have : m = 0 := by omega
      subst this
      rw [Nat.sub_zero, g0, ← h1]
      exact h0
  · unfold Fw.glue
    rw [if_neg (by omega), show m + l - m = l from by omega]
    exact g1
  · intro t ht
    unfold Fw.glue
    by_cases h3 : t < m
    · rw [if_pos h3]
      by_cases h4 : t + 1 < m
      · rw [if_pos h4]; exact h2 t h3
      · rw [if_neg h4, show t + 1 - m = 0 from by omega, g0, ← h1]
        have := h2 t h3
        rw [show t + 1 = m from by omega] at this
        exact this
    · rw [if_neg h3, if_neg (by omega), show t + 1 - m = t - m + 1 from by omega]
      exact g2 (t - m) (by omega)

def Rch (e : Nat → Nat → Bool) (S : Nat → Prop) (i j : Nat) : Prop := ∃ m p, 0 < m ∧ Walk e S i j m p

theorem Rch.step {e : Nat → Nat → Bool} {S : Nat → Prop} {i j : Nat} (hs : S i) (he : e i j = true) : Rch e S i j := by
  refine ⟨1, fun k => if k = 0 then i else j, by omega, rfl, rfl, ?_⟩
  intro k hk
  obtain rfl : k = 0 := by omega
  exact ⟨hs, he⟩

theorem Rch.trans {e : Nat → Nat → Bool} {S : Nat → Prop} {i j k : Nat} (h : Rch e S i j) (g : Rch e S j k) : Rch e S i k := by
  obtain ⟨m, p, hm, hp⟩ := h
  obtain ⟨l, q, hl, hq⟩ := g
  exact ⟨m + l, _, by omega, hp.glue hq⟩

theorem Rch.here {e : Nat → Nat → Bool} {S : Nat → Prop} {i j : Nat} (h : Rch e S i j) : S i := by
  obtain ⟨m, p, hm, h0, _, h2⟩ := h
  rw [← h0]
  exact (h2 0 hm).1

theorem Rch.mono {e : Nat → Nat → Bool} {S T : Nat → Prop} {i j : Nat} (h : Rch e S i j) (hs : ∀ x, S x → T x) : Rch e T i j := by
  obtain ⟨m, p, hm, h0, h1, h2⟩ := h
  exact ⟨m, p, hm, h0, h1, fun k hk => ⟨hs _ (h2 k hk).1, (h2 k hk).2⟩⟩

/-! ### Adding up the edges, state by state -/
/-- as Rch, the states between below k -/
def Via (e : Nat → Nat → Bool) (S : Nat → Prop) (k i j : Nat) : Prop := ∃ m p, 0 < m ∧ Walk e S i j m p ∧ ∀ t, 0 < t → t < m → p t < k

theorem Via.zero {e : Nat → Nat → Bool} {S : Nat → Prop} {i j : Nat} : Via e S 0 i j ↔ S i ∧ e i j = true := by
  constructor
  · rintro ⟨m, p, hm, ⟨h0, h1, h2⟩, h3⟩
    have hm1 : m = 1 := by
      by_cases h : m = 1
      · exact h
      · exact absurd (h3 1 (by omega) (by omega)) (by omega)
    subst hm1
    have := h2 0 (by omega)
    rw [h0, show 0 + 1 = 1 from rfl, h1] at this
    exact this
  · rintro ⟨hs, he⟩
    refine ⟨1, fun k => if k = 0 then i else j, by omega, ⟨rfl, rfl, ?_⟩, fun t h1 h2 => by omega⟩
    intro k hk
    obtain rfl : k = 0 := by omega
    exact ⟨hs, he⟩

theorem Via.more {e : Nat → Nat → Bool} {S : Nat → Prop} {k i j : Nat} (h : Via e S k i j) : Via e S (k + 1) i j := by
  obtain ⟨m, p, hm, hp, hq⟩ := h
  exact ⟨m, p, hm, hp, fun t h1 h2 => by have := hq t h1 h2; omega⟩

theorem Via.join {e : Nat → Nat → Bool} {S : Nat → Prop} {k i j : Nat} (h : Via e S k i k) (g : Via e S k k j) : Via e S (k + 1) i j := by
  obtain ⟨m, p, hm, hp, hp2⟩ := h
  obtain ⟨l, q, hl, hq, hq2⟩ := g
  refine ⟨m + l, _, by omega, hp.glue hq, ?_⟩
  intro t h1 h2
  unfold Fw.glue
  by_cases h3 : t < m
  · rw [if_pos h3]
    have := hp2 t h1 h3
    omega
  · rw [if_neg h3]
    by_cases h4 : t = m
    · rw [h4, Nat.sub_self, hq.1]
      omega
    · have := hq2 (t - m) (by omega) (by omega)
      omega

theorem via_part {e : Nat → Nat → Bool} {S : Nat → Prop} {k : Nat} : ∀ m i j p, 0 < m → Walk e S i j m p → (∀ t, 0 < t → t < m → p t < k + 1) → Via e S k i j ∨ (Via e S k i k ∧ Via e S k k j) := by
  intro m
  induction m using Nat.strongRecOn with
  | ind m ih =>
    intro i j p hm hp hq
    by_cases h : ∃ t, 0 < t ∧ t < m ∧ p t = k
    · obtain ⟨t, h1, h2, h3⟩ := h
      right
      have ha : Walk e S i k t p := ⟨hp.1, h3, fun x hx => hp.2.2 x (by omega)⟩
      have hb : Walk e S k j (m - t) (fun x => p (t + x)) := by
        refine ⟨h3, ?_, fun x hx => ?_⟩
        · show p (t + (m - t)) = j
          rw [show t + (m - t) = m from by omega]
          exact hp.2.1
        · have := hp.2.2 (t + x) (by omega)
          rw [Nat.add_assoc] at this
          exact this
      have hA := ih t h2 i k p h1 ha (fun x h4 h5 => hq x h4 (by omega))
      have hB := ih (m - t) (by omega) k j _ (by omega) hb (fun x h4 h5 => hq (t + x) (by omega) (by omega))
      constructor
      · rcases hA with h | h
        · exact h
        · exact h.1
      · rcases hB with h | h
        · exact h
        · exact h.2
    · left
      refine ⟨m, p, hm, hp, fun t h1 h2 => ?_⟩
      have h3 := hq t h1 h2
      have h4 : p t ≠ k := fun e => h ⟨t, h1, h2, e⟩
      omega

theorem Via.succ {e : Nat → Nat → Bool} {S : Nat → Prop} {k i j : Nat} : Via e S (k + 1) i j ↔ Via e S k i j ∨ (Via e S k i k ∧ Via e S k k j) := by
  constructor
  · rintro ⟨m, p, hm, hp, hq⟩
    exact via_part m i j p hm hp hq
  · rintro (h | ⟨h, g⟩)
    · exact h.more
    · exact h.join g

theorem via_all {e : Nat → Nat → Bool} {S : Nat → Prop} {n i j : Nat} (ok : ∀ i j, e i j = true → i < n ∧ j < n) : Via e S n i j ↔ Rch e S i j := by
  constructor
  · rintro ⟨m, p, hm, hp, _⟩
    exact ⟨m, p, hm, hp⟩
  · rintro ⟨m, p, hm, hp⟩
    exact ⟨m, p, hm, hp, fun t _ h2 => (ok _ _ (hp.2.2 t h2).2).1⟩

/-- the table behind k states: i to j -/
def fw (e : Nat → Nat → Bool) (S : Nat → Bool) : Nat → Nat → Nat → Bool
  | 0, i, j => S i && e i j
  | k + 1, i, j => fw e S k i j || (fw e S k i k && fw e S k k j)

theorem fw_via {e : Nat → Nat → Bool} {S : Nat → Bool} : ∀ k i j, fw e S k i j = true ↔ Via e (fun x => S x = true) k i j := by
  intro k
  induction k with
  | zero => intro i j; rw [Via.zero]; simp [fw]
  | succ k ih => intro i j; rw [Via.succ, ← ih, ← ih, ← ih]; simp [fw]

theorem fw_rch {G : Gph} (ok : G.ok) {S : Nat → Bool} (i j : Nat) : fw G.e S G.n i j = true ↔ Rch G.e (fun x => S x = true) i j := by
  rw [fw_via, via_all ok]

/-! ### Fair ways that stay -/
def Stay (G : Gph) (fs : List Nat) (S : Nat → Prop) (i : Nat) : Prop := ∃ σ, FWay G fs i σ ∧ ∀ k, S (σ k)

/-- a loop through c that meets all fair marks -/
def Loop (G : Gph) (fs : List Nat) (S : Nat → Prop) (c : Nat) : Prop := S c ∧ Rch G.e S c c ∧ ∀ f ∈ fs, ∃ d, S d ∧ G.m d f = true ∧ Rch G.e S c d ∧ Rch G.e S d c

theorem often : ∀ (n : Nat) (σ : Nat → Nat), (∀ k, σ k < n) → ∃ c, ∀ N, ∃ k, N ≤ k ∧ σ k = c := by
  intro n
  induction n with
  | zero => intro σ h; exact absurd (h 0) (by omega)
  | succ n ih =>
    intro σ h
    by_cases hc : ∀ N, ∃ k, N ≤ k ∧ σ k = n
    · exact ⟨n, hc⟩
    · obtain ⟨N, hN⟩ : ∃ N, ∀ k, N ≤ k → σ k ≠ n := by
        refine Classical.byContradiction fun hx => hc fun N => ?_
        refine Classical.byContradiction fun hy => hx ⟨N, fun k hk he => hy ⟨k, hk, he⟩⟩
      obtain ⟨c, hcc⟩ := ih (fun k => σ (N + k)) (fun k => by have h1 := h (N + k); have h2 := hN (N + k) (by omega); show σ (N + k) < n; omega)
      refine ⟨c, fun M => ?_⟩
      obtain ⟨k, hk, he⟩ := hcc M
      exact ⟨N + k, by omega, he⟩

theorem way_walk {G : Gph} {σ : Nat → Nat} (h : ∀ k, G.e (σ k) (σ (k + 1)) = true) {S : Nat → Prop} {a b : Nat} (hab : a < b) (hs : ∀ k, a ≤ k → k < b → S (σ k)) : Rch G.e S (σ a) (σ b) := by
  refine ⟨b - a, fun k => σ (a + k), by omega, rfl, ?_, fun k hk => ⟨hs (a + k) (by omega) (by omega), ?_⟩⟩
  · show σ (a + (b - a)) = σ b
    rw [show a + (b - a) = b from by omega]
  · have := h (a + k)
    rw [Nat.add_assoc] at this
    exact this

theorem stay_loop {G : Gph} (ok : G.ok) {fs : List Nat} {S : Nat → Prop} {i : Nat} (h : Stay G fs S i) : S i ∧ ∃ c, (i = c ∨ Rch G.e S i c) ∧ Loop G fs S c := by
  obtain ⟨σ, ⟨h0, h1, h2⟩, h3⟩ := h
  refine ⟨by rw [← h0]; exact h3 0, ?_⟩
  obtain ⟨c, hc⟩ := often G.n σ (fun k => (ok _ _ (h1 k)).1)
  obtain ⟨k0, _, e0⟩ := hc 0
  refine ⟨c, ?_, ?_, ?_, ?_⟩
  · by_cases hk : k0 = 0
    · left; rw [← h0, ← e0, hk]
    · right
      have := way_walk h1 (S := S) (show 0 < k0 by omega) (fun k _ _ => h3 k)
      rw [h0, e0] at this
      exact this
  · rw [← e0]; exact h3 k0
  · obtain ⟨k1, h4, e1⟩ := hc (k0 + 1)
    have := way_walk h1 (S := S) (show k0 < k1 by omega) (fun k _ _ => h3 k)
    rw [e0, e1] at this
    exact this
  · intro f hf
    obtain ⟨k1, h4, hm⟩ := h2 f hf (k0 + 1)
    obtain ⟨k2, h5, e2⟩ := hc (k1 + 1)
    have ha := way_walk h1 (S := S) (show k0 < k1 by omega) (fun k _ _ => h3 k)
    have hb := way_walk h1 (S := S) (show k1 < k2 by omega) (fun k _ _ => h3 k)
    rw [e0] at ha
    rw [e2] at hb
    exact ⟨σ k1, h3 k1, hm, ha, hb⟩

/-- a closed walk of L steps through c, that meets the marks -/
def Cyc (G : Gph) (fs : List Nat) (S : Nat → Prop) (c L : Nat) (p : Nat → Nat) : Prop := 0 < L ∧ Walk G.e S c c L p ∧ ∀ f ∈ fs, ∃ t, t < L ∧ G.m (p t) f = true

theorem loop_cyc {G : Gph} {S : Nat → Prop} {c : Nat} (hr : Rch G.e S c c) : ∀ fs : List Nat, (∀ f ∈ fs, ∃ d, S d ∧ G.m d f = true ∧ Rch G.e S c d ∧ Rch G.e S d c) → ∃ L p, Cyc G fs S c L p := by
  intro fs
  induction fs with
  | nil =>
    intro _
    obtain ⟨m, p, hm, hp⟩ := hr
    exact ⟨m, p, hm, hp, fun f hf => by simp at hf⟩
  | cons f fs ih =>
    intro h
    obtain ⟨L, p, hL, hp, hq⟩ := ih (fun g hg => h g (List.mem_cons_of_mem _ hg))
    obtain ⟨d, hd, hm, ⟨m1, p1, hm1, hw1⟩, ⟨m2, p2, hm2, hw2⟩⟩ := h f (by simp)
    refine ⟨L + (m1 + m2), _, by omega, hp.glue (hw1.glue hw2), ?_⟩
    intro g hg
    rcases List.mem_cons.1 hg with rfl | hg
    · refine ⟨L + m1, by omega, ?_⟩
      unfold Fw.glue
      rw [if_neg (by omega), show L + m1 - L = m1 from by omega, if_neg (by omega), Nat.sub_self, hw2.1]
      exact hm
    · obtain ⟨t, ht, hmt⟩ := hq g hg
      refine ⟨t, by omega, ?_⟩
      unfold Fw.glue
      rw [if_pos ht]
      exact hmt

theorem cyc_stay {G : Gph} {fs : List Nat} {S : Nat → Prop} {c L : Nat} {p : Nat → Nat} (h : Cyc G fs S c L p) : Stay G fs S c := by
  obtain ⟨hL, ⟨h0, h1, h2⟩, h3⟩ := h
  have hmod : ∀ k, k % L < L := fun k => Nat.mod_lt _ hL
  refine ⟨fun k => p (k % L), ⟨?_, ?_, ?_⟩, fun k => (h2 _ (hmod k)).1⟩
  · show p (0 % L) = c
    rw [Nat.zero_mod]
    exact h0
  · intro k
    show G.e (p (k % L)) (p ((k + 1) % L)) = true
    have hk := (h2 _ (hmod k)).2
    by_cases hx : k % L + 1 < L
    · rw [Nat.add_mod, Nat.mod_eq_of_lt (show 1 < L by omega), Nat.mod_eq_of_lt hx]
      exact hk
    · have hy : k % L + 1 = L := by have := hmod k; omega
      have hz : (k + 1) % L = 0 := by
        have e1 := Nat.div_add_mod k L
        have e2 : k + 1 = L * (k / L + 1) := by rw [Nat.mul_add, Nat.mul_one]; omega
        rw [e2, Nat.mul_mod_right]
      rw [hz, h0, ← h1]
      rw [hy] at hk
      exact hk
  · intro f hf N
    obtain ⟨t, ht, hm⟩ := h3 f hf
    refine ⟨N * L + t, ?_, ?_⟩
    · have : N ≤ N * L := Nat.le_mul_of_pos_right N hL
      omega
    · show G.m (p ((N * L + t) % L)) f = true
      rw [Nat.mul_comm, Nat.mul_add_mod, Nat.mod_eq_of_lt ht]
      exact hm

/-- ahead of a fair way -/
theorem way_ahead {G : Gph} {fs : List Nat} {S : Nat → Prop} {i c m : Nat} {q σ : Nat → Nat} (hw : Walk G.e S i c m q) (h : FWay G fs c σ) : FWay G fs i (Fw.glue m q σ) := by
  obtain ⟨w0, w1, w2⟩ := hw
  refine ⟨?_, ?_, ?_⟩
  · unfold Fw.glue
    by_cases hm : 0 < m
    · rw [if_pos hm]; exact w0
    · rw [if_neg hm, show 0 - m = 0 from by omega, h.start, ← w1, show m = 0 from by omega]
      exact w0
  · intro k
    unfold Fw.glue
    by_cases h3 : k < m
    · rw [if_pos h3]
      by_cases h4 : k + 1 < m
      · rw [if_pos h4]; exact (w2 k h3).2
      · rw [if_neg h4, show k + 1 - m = 0 from by omega, h.start, ← w1]
        have := (w2 k h3).2
        rw [show k + 1 = m from by omega] at this
        exact this
    · rw [if_neg h3, if_neg (by omega), show k + 1 - m = k - m + 1 from by omega]
      exact h.step (k - m)
  · intro f hf N
    obtain ⟨k, hk, hm⟩ := h.fair f hf N
    refine ⟨m + k, by omega, ?_⟩
    unfold Fw.glue
    rw [if_neg (by omega), show m + k - m = k from by omega]
    exact hm

theorem glue_lt {m k : Nat} {p q : Nat → Nat} (h : k < m) : Fw.glue m p q k = p k := by unfold Fw.glue; rw [if_pos h]
theorem glue_ge {m k : Nat} {p q : Nat → Nat} (h : m ≤ k) : Fw.glue m p q k = q (k - m) := by unfold Fw.glue; rw [if_neg (by omega)]

theorem loop_stay {G : Gph} {fs : List Nat} {S : Nat → Prop} {i c : Nat} (h : i = c ∨ Rch G.e S i c) (hl : Loop G fs S c) : Stay G fs S i := by
  obtain ⟨h1, h2, h3⟩ := hl
  obtain ⟨L, p, hc⟩ := loop_cyc h2 fs h3
  have hs := cyc_stay hc
  rcases h with rfl | ⟨m, q, hm, hq⟩
  · exact hs
  · obtain ⟨σ, hf, hS⟩ := hs
    refine ⟨_, way_ahead hq hf, fun k => ?_⟩
    by_cases hk : k < m
    · rw [glue_lt hk]; exact (hq.2.2 k hk).1
    · rw [glue_ge (by omega)]; exact hS _

/-- WHERE A FAIR WAY STAYS: who can come to whom and back -/
theorem stay_iff {G : Gph} (ok : G.ok) {fs : List Nat} {S : Nat → Prop} {i : Nat} : Stay G fs S i ↔ S i ∧ ∃ c, (i = c ∨ Rch G.e S i c) ∧ Loop G fs S c := by
  constructor
  · exact stay_loop ok
  · rintro ⟨_, c, h, hl⟩
    exact loop_stay h hl

def Live (G : Gph) (fs : List Nat) (i : Nat) : Prop := ∃ σ, FWay G fs i σ
theorem live_stay {G : Gph} {fs : List Nat} {i : Nat} : Live G fs i ↔ Stay G fs (fun _ => True) i := by
  constructor
  · rintro ⟨σ, h⟩; exact ⟨σ, h, fun _ => trivial⟩
  · rintro ⟨σ, h, _⟩; exact ⟨σ, h⟩

/-- the rest of a fair way -/
theorem way_rest {G : Gph} {fs : List Nat} {i : Nat} {σ : Nat → Nat} (h : FWay G fs i σ) (k : Nat) : FWay G fs (σ k) (fun t => σ (k + t)) := by
  refine ⟨rfl, fun t => ?_, fun f hf N => ?_⟩
  · have := h.step (k + t)
    rw [Nat.add_assoc] at this
    exact this
  · obtain ⟨t, ht, hm⟩ := h.fair f hf (k + N)
    refine ⟨t - k, by omega, ?_⟩
    show G.m (σ (k + (t - k))) f = true
    rw [show k + (t - k) = t from by omega]
    exact hm

/-- E and X -/
theorem ex_iff {G : Gph} {fs : List Nat} {A : Nat → Prop} {i : Nat} : (∃ σ, FWay G fs i σ ∧ A (σ 1)) ↔ ∃ j, G.e i j = true ∧ A j ∧ Live G fs j := by
  constructor
  · rintro ⟨σ, h, ha⟩
    have := h.step 0
    rw [h.start] at this
    exact ⟨σ 1, this, ha, _, way_rest h 1⟩
  · rintro ⟨j, he, ha, σ, h⟩
    have hw : Walk G.e (fun _ => True) i j 1 (fun k => if k = 0 then i else j) := by
      refine ⟨rfl, rfl, fun k hk => ?_⟩
      obtain rfl : k = 0 := by omega
      exact ⟨trivial, he⟩
    refine ⟨_, way_ahead hw h, ?_⟩
    rw [glue_ge (by omega), Nat.sub_self, h.start]
    exact ha

/-- E and U -/
theorem eu_iff {G : Gph} {fs : List Nat} {A B : Nat → Prop} {i : Nat} : (∃ σ, FWay G fs i σ ∧ ∃ k, B (σ k) ∧ ∀ j, j < k → A (σ j)) ↔ (B i ∧ Live G fs i) ∨ ∃ j, (B j ∧ Live G fs j) ∧ Rch G.e A i j := by
  constructor
  · rintro ⟨σ, h, k, hb, ha⟩
    by_cases hk : k = 0
    · subst hk
      rw [h.start] at hb
      exact .inl ⟨hb, σ, h⟩
    · right
      refine ⟨σ k, ⟨hb, _, way_rest h k⟩, ?_⟩
      have := way_walk h.step (S := A) (show 0 < k by omega) (fun t _ ht => ha t ht)
      rw [h.start] at this
      exact this
  · rintro (⟨hb, σ, h⟩ | ⟨j, ⟨hb, σ, h⟩, m, q, hm, hq⟩)
    · exact ⟨σ, h, 0, by rw [h.start]; exact hb, fun j hj => by omega⟩
    · refine ⟨_, way_ahead hq h, m, ?_, fun t ht => ?_⟩
      · rw [glue_ge (Nat.le_refl _), Nat.sub_self, h.start]; exact hb
      · rw [glue_lt ht]; exact (hq.2.2 t ht).1

/-- E and R -/
theorem er_iff {G : Gph} {fs : List Nat} {A B : Nat → Prop} {i : Nat} : (∃ σ, FWay G fs i σ ∧ ((∀ k, B (σ k)) ∨ ∃ k, A (σ k) ∧ ∀ j, j ≤ k → B (σ j))) ↔
    Stay G fs B i ∨ ((A i ∧ B i) ∧ Live G fs i) ∨ ∃ j, ((A j ∧ B j) ∧ Live G fs j) ∧ Rch G.e B i j := by
  constructor
  · rintro ⟨σ, h, hb | ⟨k, ha, hb⟩⟩
    · exact .inl ⟨σ, h, hb⟩
    · right
      refine (eu_iff (A := B) (B := fun x => A x ∧ B x)).1 ⟨σ, h, k, ⟨ha, hb k (Nat.le_refl _)⟩, fun j hj => hb j (by omega)⟩
  · rintro (⟨σ, h, hb⟩ | h)
    · exact ⟨σ, h, .inl hb⟩
    · obtain ⟨σ, h, k, ⟨ha, hb⟩, hc⟩ := (eu_iff (A := B) (B := fun x => A x ∧ B x)).2 h
      refine ⟨σ, h, .inr ⟨k, ha, fun j hj => ?_⟩⟩
      by_cases e : j = k
      · rw [e]; exact hb
      · exact hc j (by omega)

/-! ### The same, reckoned -/
section
variable (G : Gph) (fs : List Nat)

def anyN (p : Nat → Bool) : Bool := (List.range G.n).any p

def roundB (S : Nat → Bool) (c : Nat) : Bool :=
  S c && fw G.e S G.n c c && fs.all fun f => anyN G fun d => S d && G.m d f && fw G.e S G.n c d && fw G.e S G.n d c

def staysB (S : Nat → Bool) (i : Nat) : Bool := anyN G fun c => roundB G fs S c && S i && (i == c || fw G.e S G.n i c)

def fullB (i : Nat) : Bool := decide (i < G.n)

def comesB (a b : Nat → Bool) (i : Nat) : Bool := b i || anyN G fun j => b j && fw G.e a G.n i j

def liveB (i : Nat) : Bool := staysB G fs (fullB G) i

/-- sg: X, U or R -/
def someB (sg : Nat) (a b : Nat → Bool) (i : Nat) : Bool :=
  if sg = 88 then anyN G fun j => G.e i j && a j && liveB G fs j
  else if sg = 85 then comesB G a (fun j => b j && liveB G fs j) i
  else comesB G b (fun j => a j && b j && liveB G fs j) i || staysB G fs b i

def flip (sg : Nat) : Nat := if sg = 85 then 82 else if sg = 82 then 85 else sg

/-- where a formula holds, reckoned -/
def holdsB : Fm → Nat → Bool
  | .nil, _ => false
  | .node sg wy _ l r, i =>
    if sg = 33 then !(holdsB l i)
    else if sg = 38 then holdsB l i && holdsB r i
    else if sg = 43 then holdsB l i || holdsB r i
    else if sg = 88 ∨ sg = 85 ∨ sg = 82 then
      (if wy = 69 then someB G fs sg (fun j => decide (j < G.n) && holdsB l j) (fun j => decide (j < G.n) && holdsB r j) i
       else !(someB G fs (flip sg) (fun j => decide (j < G.n) && !(holdsB l j)) (fun j => decide (j < G.n) && !(holdsB r j)) i))
    else if sg = 84 then true
    else G.m i sg

variable {G fs}

theorem anyN_iff {p : Nat → Bool} : anyN G p = true ↔ ∃ j, j < G.n ∧ p j = true := by
  simp [anyN, List.any_eq_true]

theorem rch_lt (ok : G.ok) {S : Nat → Prop} {i j : Nat} (h : Rch G.e S i j) : i < G.n ∧ j < G.n := by
  obtain ⟨m, p, hm, h0, h1, h2⟩ := h
  refine ⟨by rw [← h0]; exact (ok _ _ (h2 0 hm).2).1, ?_⟩
  have := (ok _ _ (h2 (m - 1) (by omega)).2).2
  rw [show m - 1 + 1 = m from by omega, h1] at this
  exact this

theorem roundB_iff (ok : G.ok) {S : Nat → Bool} {c : Nat} : roundB G fs S c = true ↔ Loop G fs (fun x => S x = true) c := by
  unfold roundB Loop
  rw [Bool.and_eq_true, Bool.and_eq_true, fw_rch ok, List.all_eq_true]
  constructor
  · rintro ⟨⟨h1, h2⟩, h3⟩
    refine ⟨h1, h2, fun f hf => ?_⟩
    obtain ⟨d, _, hd⟩ := anyN_iff.1 (h3 f hf)
    rw [Bool.and_eq_true, Bool.and_eq_true, Bool.and_eq_true, fw_rch ok, fw_rch ok] at hd
    exact ⟨d, hd.1.1.1, hd.1.1.2, hd.1.2, hd.2⟩
  · rintro ⟨h1, h2, h3⟩
    refine ⟨⟨h1, h2⟩, fun f hf => ?_⟩
    obtain ⟨d, h4, h5, h6, h7⟩ := h3 f hf
    refine anyN_iff.2 ⟨d, (rch_lt ok h7).1, ?_⟩
    rw [Bool.and_eq_true, Bool.and_eq_true, Bool.and_eq_true, fw_rch ok, fw_rch ok]
    exact ⟨⟨⟨h4, h5⟩, h6⟩, h7⟩

theorem staysB_iff (ok : G.ok) {S : Nat → Bool} {i : Nat} : staysB G fs S i = true ↔ Stay G fs (fun x => S x = true) i := by
  rw [stay_iff ok, staysB, anyN_iff]
  constructor
  · rintro ⟨c, _, h⟩
    rw [Bool.and_eq_true, Bool.and_eq_true, roundB_iff ok, Bool.or_eq_true, beq_iff_eq, fw_rch ok] at h
    exact ⟨h.1.2, c, h.2, h.1.1⟩
  · rintro ⟨h1, c, h2, h3⟩
    refine ⟨c, (rch_lt ok h3.2.1).1, ?_⟩
    rw [Bool.and_eq_true, Bool.and_eq_true, roundB_iff ok, Bool.or_eq_true, beq_iff_eq, fw_rch ok]
    exact ⟨⟨h3, h1⟩, h2⟩

theorem live_lt (ok : G.ok) {i : Nat} (h : Live G fs i) : i < G.n := by
  obtain ⟨σ, h⟩ := h
  have := (ok _ _ (h.step 0)).1
  rw [h.start] at this
  exact this

theorem stay_mono {S T : Nat → Prop} {i : Nat} (h : Stay G fs S i) (hst : ∀ x, S x → T x) : Stay G fs T i := by
  obtain ⟨σ, h, hs⟩ := h
  exact ⟨σ, h, fun k => hst _ (hs k)⟩

theorem liveB_iff (ok : G.ok) {i : Nat} : liveB G fs i = true ↔ Live G fs i := by
  rw [liveB, staysB_iff ok, live_stay]
  constructor
  · intro h; exact stay_mono h (fun _ _ => trivial)
  · rintro ⟨σ, h, _⟩
    exact ⟨σ, h, fun k => by simp only [fullB, decide_eq_true_eq]; exact (ok _ _ (h.step k)).1⟩

theorem comesB_iff (ok : G.ok) {a b : Nat → Bool} {i : Nat} : comesB G a b i = true ↔ b i = true ∨ ∃ j, b j = true ∧ Rch G.e (fun x => a x = true) i j := by
  rw [comesB, Bool.or_eq_true, anyN_iff]
  constructor
  · rintro (h | ⟨j, _, h⟩)
    · exact .inl h
    · rw [Bool.and_eq_true, fw_rch ok] at h
      exact .inr ⟨j, h⟩
  · rintro (h | ⟨j, h1, h2⟩)
    · exact .inl h
    · exact .inr ⟨j, (rch_lt ok h2).2, by rw [Bool.and_eq_true, fw_rch ok]; exact ⟨h1, h2⟩⟩

/-- what is said of a way: X, U or R -/
def says (sg : Nat) (A B : Nat → Prop) (σ : Nat → Nat) : Prop :=
  if sg = 88 then A (σ 1) else if sg = 85 then ∃ k, B (σ k) ∧ ∀ j, j < k → A (σ j) else (∀ k, B (σ k)) ∨ ∃ k, A (σ k) ∧ ∀ j, j ≤ k → B (σ j)

theorem someB_iff (ok : G.ok) {sg : Nat} {a b : Nat → Bool} {i : Nat} : someB G fs sg a b i = true ↔ ∃ σ, FWay G fs i σ ∧ says sg (fun x => a x = true) (fun x => b x = true) σ := by
  unfold someB says
  by_cases h1 : sg = 88
  · simp only [h1, if_true]
    rw [ex_iff (A := fun x => a x = true), anyN_iff]
    constructor
    · rintro ⟨j, _, h⟩
      rw [Bool.and_eq_true, Bool.and_eq_true, liveB_iff ok] at h
      exact ⟨j, h.1.1, h.1.2, h.2⟩
    · rintro ⟨j, h1, h2, h3⟩
      refine ⟨j, live_lt ok h3, ?_⟩
      rw [Bool.and_eq_true, Bool.and_eq_true, liveB_iff ok]
      exact ⟨⟨h1, h2⟩, h3⟩
  · simp only [if_neg h1]
    by_cases h2 : sg = 85
    · simp only [h2, if_true]
      rw [eu_iff (A := fun x => a x = true) (B := fun x => b x = true), comesB_iff ok]
      simp only [Bool.and_eq_true, liveB_iff ok]
    · simp only [if_neg h2]
      rw [er_iff (A := fun x => a x = true) (B := fun x => b x = true), Bool.or_eq_true, comesB_iff ok, staysB_iff ok]
      simp only [Bool.and_eq_true, liveB_iff ok]
      constructor
      · rintro (h | h)
        · exact .inr h
        · exact .inl h
      · rintro (h | h)
        · exact .inr h
        · exact .inl h

/-- the contrary of what is said of a way -/
theorem says_flip {sg : Nat} (h : sg = 88 ∨ sg = 85 ∨ sg = 82) {A B : Nat → Prop} {σ : Nat → Nat} : says (flip sg) (fun x => ¬ A x) (fun x => ¬ B x) σ ↔ ¬ says sg A B σ := by
  rcases h with rfl | rfl | rfl
  · simp [says, flip]
  · show ((∀ k, ¬ B (σ k)) ∨ ∃ k, ¬ A (σ k) ∧ ∀ j, j ≤ k → ¬ B (σ j)) ↔ ¬ (∃ k, B (σ k) ∧ ∀ j, j < k → A (σ j))
    constructor
    · rintro (h | ⟨k, h1, h2⟩) ⟨t, h3, h4⟩
      · exact h t h3
      · by_cases hk : t ≤ k
        · exact h2 t hk h3
        · exact h1 (h4 k (by omega))
    · intro h
      refine Classical.byContradiction fun hc => ?_
      have hc1 : ¬ ∀ k, ¬ B (σ k) := fun hx => hc (.inl hx)
      have hc2 : ∀ k, ¬ A (σ k) → ∃ j, j ≤ k ∧ B (σ j) := fun k ha => Classical.byContradiction fun hx => hc (.inr ⟨k, ha, fun j hj hb => hx ⟨j, hj, hb⟩⟩)
      obtain ⟨t, ht⟩ : ∃ t, B (σ t) := Classical.byContradiction fun hx => hc1 fun k hb => hx ⟨k, hb⟩
      have key : ∀ t, B (σ t) → ∃ k, B (σ k) ∧ ∀ j, j < k → A (σ j) := by
        intro t
        induction t using Nat.strongRecOn with
        | ind t ih =>
          intro hb
          by_cases hx : ∃ j, j < t ∧ ¬ A (σ j)
          · obtain ⟨j, hj, ha⟩ := hx
            obtain ⟨q, hq, hbq⟩ := hc2 j ha
            exact ih q (by omega) hbq
          · exact ⟨t, hb, fun j hj => Classical.byContradiction fun ha => hx ⟨j, hj, ha⟩⟩
      exact h (key t ht)
  · show (∃ k, ¬ B (σ k) ∧ ∀ j, j < k → ¬ A (σ j)) ↔ ¬ ((∀ k, B (σ k)) ∨ ∃ k, A (σ k) ∧ ∀ j, j ≤ k → B (σ j))
    constructor
    · rintro ⟨k, h1, h2⟩ (h | ⟨t, h3, h4⟩)
      · exact h1 (h k)
      · by_cases hk : k ≤ t
        · exact h1 (h4 k hk)
        · exact h2 t (by omega) h3
    · intro h
      have h1 : ¬ ∀ k, B (σ k) := fun hx => h (.inl hx)
      have h2 : ∀ k, A (σ k) → ∃ j, j ≤ k ∧ ¬ B (σ j) := fun k ha => Classical.byContradiction fun hx => h (.inr ⟨k, ha, fun j hj => Classical.byContradiction fun hb => hx ⟨j, hj, hb⟩⟩)
      obtain ⟨t, ht⟩ : ∃ t, ¬ B (σ t) := Classical.byContradiction fun hx => h1 fun k => Classical.byContradiction fun hb => hx ⟨k, hb⟩
      have key : ∀ t, ¬ B (σ t) → ∃ k, ¬ B (σ k) ∧ ∀ j, j < k → ¬ A (σ j) := by
        intro t
        induction t using Nat.strongRecOn with
        | ind t ih =>
          intro hb
          by_cases hx : ∃ j, j < t ∧ A (σ j)
          · obtain ⟨j, hj, ha⟩ := hx
            obtain ⟨q, hq, hbq⟩ := h2 j ha
            exact ih q (by omega) hbq
          · exact ⟨t, hb, fun j hj ha => hx ⟨j, hj, ha⟩⟩
      exact key t ht

/-- a formula with E or A, by what it says of ways -/
theorem sat_way {sg wy : Nat} {l r : Fm} {u : Unit} (h : sg = 88 ∨ sg = 85 ∨ sg = 82) (i : Nat) : sat G fs (.node sg wy u l r) i ↔ (if wy = 69 then ∃ σ, FWay G fs i σ ∧ says sg (sat G fs l) (sat G fs r) σ else ∀ σ, FWay G fs i σ → says sg (sat G fs l) (sat G fs r) σ) := by
  rcases h with rfl | rfl | rfl
  · exact Iff.rfl
  · exact Iff.rfl
  · exact Iff.rfl

theorem says_congr {sg : Nat} {A B A' B' : Nat → Prop} {σ : Nat → Nat} (ha : ∀ k, A (σ k) ↔ A' (σ k)) (hb : ∀ k, B (σ k) ↔ B' (σ k)) : says sg A B σ ↔ says sg A' B' σ := by
  unfold says
  simp only [ha, hb]

/-- WHAT IS RECKONED IS WHAT THE DOCUMENT SAYS -/
theorem holdsB_iff (ok : G.ok) : ∀ (t : Fm), good t → ∀ i, i < G.n → (holdsB G fs t i = true ↔ sat G fs t i) := by
  intro t
  induction t with
  | nil => intro h; exact absurd h (by simp [good])
  | node sg wy u l r ihl ihr =>
    intro h i hi
    have key : (sg = 88 ∨ sg = 85 ∨ sg = 82) → (wy = 69 ∨ wy = 65) → good l → (good r ∨ (sg = 88 ∧ r = .nil)) → (holdsB G fs (.node sg wy u l r) i = true ↔ sat G fs (.node sg wy u l r) i) := by
      intro hs hw gl gr
      rw [sat_way hs]
      have hb : ∀ σ, FWay G fs i σ → ∀ k, σ k < G.n := fun σ hσ k => (ok _ _ (hσ.step k)).1
      have el : ∀ j, j < G.n → ((decide (j < G.n) && holdsB G fs l j) = true ↔ sat G fs l j) := fun j hj => by simp [hj, ihl gl j hj]
      have el' : ∀ j, j < G.n → ((decide (j < G.n) && !(holdsB G fs l j)) = true ↔ ¬ sat G fs l j) := fun j hj => by
        rw [← ihl gl j hj]; simp [hj]
      have er : ∀ j, j < G.n → good r → ((decide (j < G.n) && holdsB G fs r j) = true ↔ sat G fs r j) := fun j hj gr => by simp [hj, ihr gr j hj]
      have er' : ∀ j, j < G.n → good r → ((decide (j < G.n) && !(holdsB G fs r j)) = true ↔ ¬ sat G fs r j) := fun j hj gr => by
        rw [← ihr gr j hj]; simp [hj]
      have hu : holdsB G fs (.node sg wy u l r) i = (if wy = 69 then someB G fs sg (fun j => decide (j < G.n) && holdsB G fs l j) (fun j => decide (j < G.n) && holdsB G fs r j) i
       else !(someB G fs (flip sg) (fun j => decide (j < G.n) && !(holdsB G fs l j)) (fun j => decide (j < G.n) && !(holdsB G fs r j)) i)) := by
        rw [holdsB, if_neg (by omega), if_neg (by omega), if_neg (by omega), if_pos hs]
      rw [hu]
      by_cases hw : wy = 69
      · rw [if_pos hw, if_pos hw, someB_iff ok]
        constructor
        · rintro ⟨σ, hσ, hx⟩
          refine ⟨σ, hσ, ?_⟩
          rcases gr with gr | ⟨e, _⟩
          · exact (says_congr (fun k => el _ (hb σ hσ k)) (fun k => er _ (hb σ hσ k) gr)).1 hx
          · subst e
            exact (el _ (hb σ hσ 1)).1 hx
        · rintro ⟨σ, hσ, hx⟩
          refine ⟨σ, hσ, ?_⟩
          rcases gr with gr | ⟨e, _⟩
          · exact (says_congr (fun k => el _ (hb σ hσ k)) (fun k => er _ (hb σ hσ k) gr)).2 hx
          · subst e
            exact (el _ (hb σ hσ 1)).2 hx
      · rw [if_neg hw, if_neg hw, Bool.not_eq_true', ← Bool.not_eq_true, someB_iff ok]
        constructor
        · intro hn σ hσ
          refine Classical.byContradiction fun hx => hn ⟨σ, hσ, ?_⟩
          rcases gr with gr | ⟨e, _⟩
          · exact (says_congr (fun k => el' _ (hb σ hσ k)) (fun k => er' _ (hb σ hσ k) gr)).2 ((says_flip hs).2 hx)
          · subst e
            exact (el' _ (hb σ hσ 1)).2 hx
        · rintro ha ⟨σ, hσ, hx⟩
          have hy := ha σ hσ
          rcases gr with gr | ⟨e, _⟩
          · exact (says_flip hs).1 ((says_congr (fun k => el' _ (hb σ hσ k)) (fun k => er' _ (hb σ hσ k) gr)).1 hx) hy
          · subst e
            exact (el' _ (hb σ hσ 1)).1 hx hy
    rcases good_cases h with ⟨c, e, hc, ht⟩ | ⟨x, e, hx, ht⟩ | ⟨s, x, y, e, hs, hx, hy, ht⟩ | ⟨v, x, e, hv, hx, ht⟩ | ⟨s, v, x, y, e, hs, hv, hx, hy, ht⟩
    · injection e with e3 e0 _ e1 e2
      subst e3 e0 e1 e2
      simp only [isAtom, decide_eq_true_eq] at hc
      have q1 : holdsB G fs (.node sg 0 u .nil .nil) i = if sg = 84 then true else G.m i sg := by
        rw [holdsB, if_neg (by omega), if_neg (by omega), if_neg (by omega), if_neg (by omega)]
      have q2 : sat G fs (.node sg 0 u .nil .nil) i ↔ if sg = 84 then True else G.m i sg = true := by
        rw [sat, if_neg (by omega), if_neg (by omega), if_neg (by omega), if_neg (by omega), if_neg (by omega), if_neg (by omega)]
      rw [q1, q2]
      by_cases h84 : sg = 84
      · rw [if_pos h84, if_pos h84]; simp
      · rw [if_neg h84, if_neg h84]
    · injection e with e3 e0 _ e1 e2
      subst e3 e0 e1 e2
      rw [holdsB, sat, if_pos rfl, if_pos rfl, ← ihl hx i hi]
      simp
    · injection e with e3 e0 _ e1 e2
      subst e3 e0 e1 e2
      rcases hs with rfl | rfl
      · rw [holdsB, sat, if_neg (by omega), if_pos rfl, if_neg (by omega), if_pos rfl, ← ihl hx i hi, ← ihr hy i hi]
        simp
      · rw [holdsB, sat, if_neg (by omega), if_neg (by omega), if_pos rfl, if_neg (by omega), if_neg (by omega), if_pos rfl, ← ihl hx i hi, ← ihr hy i hi]
        simp
    · injection e with e3 e0 _ e1 e2
      subst e3 e0 e1 e2
      exact key (.inl rfl) hv hx (.inr ⟨rfl, rfl⟩)
    · injection e with e3 e0 _ e1 e2
      subst e3 e0 e1 e2
      exact key (.inr hs) hv hx (.inl hy)

end

end Go.Proofs.Ytkjnhhbibaimfaa.Fw
