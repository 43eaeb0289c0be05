import Derived.Test.YtcfbfdjmcabnkaaGK
namespace Go.Proofs.Ytcfbfdjmcabnkaa
open Fw
open Go.Deep (BT)
set_option linter.unusedVariables false

variable {G : Gph} {fs : List Nat}

theorem sat_not {l : Fm} {wy i : Nat} : sat G fs (.node 33 wy () l .nil) i ↔ ¬ sat G fs l i := by rw [sat, if_pos rfl]
theorem sat_and {l r : Fm} {wy i : Nat} : sat G fs (.node 38 wy () l r) i ↔ sat G fs l i ∧ sat G fs r i := by
  rw [sat, if_neg (by omega), if_pos rfl]
theorem sat_or {l r : Fm} {wy i : Nat} : sat G fs (.node 43 wy () l r) i ↔ sat G fs l i ∨ sat G fs r i := by
  rw [sat, if_neg (by omega), if_neg (by omega), if_pos rfl]

theorem says_x {A B A' B' : Nat → Prop} {σ : Nat → Nat} (h : A (σ 1) ↔ A' (σ 1)) : says 88 A B σ ↔ says 88 A' B' σ := by simp [says, h]

/-- PUSHING KEEPS THE MEANING -/
theorem pushT_sat : ∀ (t : Fm), good t → ∀ i, (sat G fs (pushT t false) i ↔ sat G fs t i) ∧ (sat G fs (pushT t true) i ↔ ¬ sat G fs t i) := by
  intro t
  induction t with
  | nil => intro h; exact absurd h (by simp [good])
  | node sg wy u l r ihl ihr =>
    intro h i
    rcases good_cases h with ⟨c, e, hc, ht⟩ | ⟨x, e, hx, ht⟩ | ⟨s, x, y, e, hs, hx, hy, ht⟩ | ⟨v, x, e, hv, hx, ht⟩ | ⟨s, v, x, y, e, hs, hv, hx, hy, ht⟩
    · rw [e, pushT_atom hc, pushT_atom hc, if_neg (by simp), if_pos rfl, sat_not]
      exact ⟨Iff.rfl, Iff.rfl⟩
    · injection e with e3 e0 _ e1 e2
      subst e3 e0 e1 e2
      rw [pushT_not, pushT_not, sat_not]
      obtain ⟨a, b⟩ := ihl hx i
      exact ⟨b, by rw [Bool.not_true, a]; exact Iff.symm Classical.not_not⟩
    · injection e with e3 e0 _ e1 e2
      subst e3 e0 e1 e2
      rw [pushT_bin hs, pushT_bin hs]
      obtain ⟨a, b⟩ := ihl hx i
      obtain ⟨a', b'⟩ := ihr hy i
      rcases hs with rfl | rfl
      · refine ⟨by rw [show tn false 38 = 38 from rfl, sat_and, sat_and, a, a'], ?_⟩
        rw [show tn true 38 = 43 from rfl, sat_or, sat_and, b, b']
        exact (Classical.not_and_iff_not_or_not).symm
      · refine ⟨by rw [show tn false 43 = 43 from rfl, sat_or, sat_or, a, a'], ?_⟩
        rw [show tn true 43 = 38 from rfl, sat_or, sat_and, b, b']
        exact not_or.symm
    · injection e with e3 e0 _ e1 e2
      subst e3 e0 e1 e2
      rw [pushT_x, pushT_x, sat_way (.inl rfl), sat_way (.inl rfl), sat_way (.inl rfl)]
      have ha : ∀ σ : Nat → Nat, says 88 (sat G fs (pushT l false)) (sat G fs .nil) σ ↔ says 88 (sat G fs l) (sat G fs .nil) σ := fun σ => says_x (ihl hx _).1
      have hb : ∀ σ : Nat → Nat, says 88 (sat G fs (pushT l true)) (sat G fs .nil) σ ↔ ¬ says 88 (sat G fs l) (sat G fs .nil) σ := fun σ => by
        rw [says_x (A' := fun x => ¬ sat G fs l x) (B' := fun x => ¬ sat G fs .nil x) (ihl hx _).2]
        exact says_flip (sg := 88) (.inl rfl)
      rcases hv with rfl | rfl
      · refine ⟨by rw [show tn false 69 = 69 from rfl, if_pos rfl, if_pos rfl]; simp only [ha], ?_⟩
        rw [show tn true 69 = 65 from rfl, if_neg (by omega), if_pos rfl]
        simp only [hb, not_exists, not_and]
      · refine ⟨by rw [show tn false 65 = 65 from rfl, if_neg (by omega), if_neg (by omega)]; simp only [ha], ?_⟩
        rw [show tn true 65 = 69 from rfl, if_pos rfl, if_neg (by omega)]
        simp only [hb, Classical.not_forall, exists_prop]
    · injection e with e3 e0 _ e1 e2
      subst e3 e0 e1 e2
      have hsg : sg = 88 ∨ sg = 85 ∨ sg = 82 := .inr hs
      have hfl : tn true sg = Fw.flip sg := by rcases hs with rfl | rfl <;> rfl
      have hfs : Fw.flip sg = 88 ∨ Fw.flip sg = 85 ∨ Fw.flip sg = 82 := by rcases hs with rfl | rfl <;> simp [Fw.flip]
      rw [pushT_way hs, pushT_way hs, show tn false sg = sg from rfl, hfl, sat_way hsg, sat_way hsg, sat_way hfs]
      have ha : ∀ σ : Nat → Nat, says sg (sat G fs (pushT l false)) (sat G fs (pushT r false)) σ ↔ says sg (sat G fs l) (sat G fs r) σ := fun σ => says_congr (fun k => (ihl hx _).1) (fun k => (ihr hy _).1)
      have hb : ∀ σ : Nat → Nat, says (Fw.flip sg) (sat G fs (pushT l true)) (sat G fs (pushT r true)) σ ↔ ¬ says sg (sat G fs l) (sat G fs r) σ := fun σ => by
        rw [says_congr (A' := fun x => ¬ sat G fs l x) (B' := fun x => ¬ sat G fs r x) (fun k => (ihl hx _).2) (fun k => (ihr hy _).2)]
        exact says_flip hsg
      rcases hv with rfl | rfl
      · refine ⟨by rw [show tn false 69 = 69 from rfl, if_pos rfl, if_pos rfl]; simp only [ha], ?_⟩
        rw [show tn true 69 = 65 from rfl, if_neg (by omega), if_pos rfl]
        simp only [hb, not_exists, not_and]
      · refine ⟨by rw [show tn false 65 = 65 from rfl, if_neg (by omega), if_neg (by omega)]; simp only [ha], ?_⟩
        rw [show tn true 65 = 69 from rfl, if_pos rfl, if_neg (by omega)]
        simp only [hb, Classical.not_forall, exists_prop]

/-! ### Fair marks take ways away -/
theorem way_plain {i : Nat} {σ : Nat → Nat} (h : FWay G fs i σ) : FWay G [] i σ := ⟨h.start, h.step, fun f hf => by simp at hf⟩
theorem says_mono {sg : Nat} {A B A' B' : Nat → Prop} {σ : Nat → Nat} (ha : ∀ x, A x → A' x) (hb : ∀ x, B x → B' x) (h : says sg A B σ) : says sg A' B' σ := by
  unfold says at h ⊢
  split at h
  · rename_i h1; rw [if_pos h1]; exact ha _ h
  · rename_i h1
    rw [if_neg h1]
    split at h
    · rename_i h2; rw [if_pos h2]
      obtain ⟨k, h3, h4⟩ := h
      exact ⟨k, hb _ h3, fun j hj => ha _ (h4 j hj)⟩
    · rename_i h2; rw [if_neg h2]
      rcases h with h | ⟨k, h3, h4⟩
      · exact .inl fun k => hb _ (h k)
      · exact .inr ⟨k, ha _ h3, fun j hj => hb _ (h4 j hj)⟩

theorem sat_atom_is {c : Nat} (hc : isAtom c = true) (i : Nat) : sat G fs (.node c 0 () .nil .nil) i ↔ (c = 84 ∨ G.m i c = true) := by
  simp only [isAtom, decide_eq_true_eq] at hc
  rw [sat, if_neg (by omega), if_neg (by omega), if_neg (by omega), if_neg (by omega), if_neg (by omega), if_neg (by omega)]
  by_cases h : c = 84
  · simp [h]
  · simp [h]
theorem sat_atom_any {c : Nat} (hc : isAtom c = true) (i : Nat) (es : List Nat) : sat G fs (.node c 0 () .nil .nil) i ↔ sat G es (.node c 0 () .nil .nil) i := by
  rw [sat_atom_is hc, sat_atom_is hc]

theorem fewer : ∀ (t : Fm), good t → ∀ (neg : Bool),
    ((∀ c ∈ push t neg, ¬ c.toNat = 65) → ∀ i, sat G fs (pushT t neg) i → sat G [] (pushT t neg) i) ∧ ((∀ c ∈ push t neg, ¬ c.toNat = 69) → ∀ i, sat G [] (pushT t neg) i → sat G fs (pushT t neg) i) := by
  intro t
  induction t with
  | nil => intro h; exact absurd h (by simp [good])
  | node sg wy u l r ihl ihr =>
    intro h neg
    rcases good_cases h with ⟨c, e, hc, ht⟩ | ⟨x, e, hx, ht⟩ | ⟨s, x, y, e, hs, hx, hy, ht⟩ | ⟨v, x, e, hv, hx, ht⟩ | ⟨s, v, x, y, e, hs, hv, hx, hy, ht⟩
    · rw [e, pushT_atom hc]
      cases neg with
      | true =>
        rw [if_pos rfl]
        refine ⟨fun _ i => ?_, fun _ i => ?_⟩
        · rw [sat_not, sat_not, sat_atom_any hc i []]; exact id
        · rw [sat_not, sat_not, sat_atom_any (fs := fs) hc i []]; exact id
      | false =>
        rw [if_neg (by simp)]
        exact ⟨fun _ i => (sat_atom_any hc i []).1, fun _ i => (sat_atom_any hc i []).2⟩
    · injection e with e3 e0 _ e1 e2
      subst e3 e0 e1 e2
      rw [pushT_not, push_not]
      exact ihl hx (!neg)
    · injection e with e3 e0 _ e1 e2
      subst e3 e0 e1 e2
      rw [pushT_bin hs, push_bin hs]
      obtain ⟨a, b⟩ := ihl hx neg
      obtain ⟨a', b'⟩ := ihr hy neg
      rcases tn_bin hs neg with h1 | h1
      · rw [h1]
        refine ⟨fun hn i => ?_, fun hn i => ?_⟩
        · rw [sat_and, sat_and]
          exact fun ⟨p, q⟩ => ⟨a (fun c hc => hn c (by simp [hc])) i p, a' (fun c hc => hn c (by simp [hc])) i q⟩
        · rw [sat_and, sat_and]
          exact fun ⟨p, q⟩ => ⟨b (fun c hc => hn c (by simp [hc])) i p, b' (fun c hc => hn c (by simp [hc])) i q⟩
      · rw [h1]
        refine ⟨fun hn i => ?_, fun hn i => ?_⟩
        · rw [sat_or, sat_or]
          rintro (p | q)
          · exact .inl (a (fun c hc => hn c (by simp [hc])) i p)
          · exact .inr (a' (fun c hc => hn c (by simp [hc])) i q)
        · rw [sat_or, sat_or]
          rintro (p | q)
          · exact .inl (b (fun c hc => hn c (by simp [hc])) i p)
          · exact .inr (b' (fun c hc => hn c (by simp [hc])) i q)
    · injection e with e3 e0 _ e1 e2
      subst e3 e0 e1 e2
      rw [pushT_x, push_x]
      obtain ⟨a, b⟩ := ihl hx neg
      have hw := tn_wy hv neg
      have hb : (b8 (tn neg wy)).toNat = tn neg wy := b8_nat (by omega)
      refine ⟨fun hn i => ?_, fun hn i => ?_⟩
      · have h1 := hn (b8 (tn neg wy)) (by simp)
        rw [hb] at h1
        rw [sat_way (.inl rfl), sat_way (.inl rfl), if_pos (by omega), if_pos (by omega)]
        rintro ⟨σ, hσ, hs⟩
        exact ⟨σ, (way_plain hσ), says_mono (a fun c hc => hn c (by simp [hc])) (fun x hx => (by simp [sat] at hx)) hs⟩
      · have h1 := hn (b8 (tn neg wy)) (by simp)
        rw [hb] at h1
        rw [sat_way (.inl rfl), sat_way (.inl rfl), if_neg (by omega), if_neg (by omega)]
        intro hs σ hσ
        exact says_mono (b fun c hc => hn c (by simp [hc])) (fun x hx => (by simp [sat] at hx)) (hs σ (way_plain hσ))
    · injection e with e3 e0 _ e1 e2
      subst e3 e0 e1 e2
      rw [pushT_way hs, push_way hs]
      obtain ⟨a, b⟩ := ihl hx neg
      obtain ⟨a', b'⟩ := ihr hy neg
      have hw := tn_wy hv neg
      have hb : (b8 (tn neg wy)).toNat = tn neg wy := b8_nat (by omega)
      have hu : tn neg sg = 88 ∨ tn neg sg = 85 ∨ tn neg sg = 82 := .inr (tn_ur hs neg)
      refine ⟨fun hn i => ?_, fun hn i => ?_⟩
      · have h1 := hn (b8 (tn neg wy)) (by simp)
        rw [hb] at h1
        rw [sat_way hu, sat_way hu, if_pos (by omega), if_pos (by omega)]
        rintro ⟨σ, hσ, hs⟩
        exact ⟨σ, (way_plain hσ), says_mono (a fun c hc => hn c (by simp [hc])) (a' fun c hc => hn c (by simp [hc])) hs⟩
      · have h1 := hn (b8 (tn neg wy)) (by simp)
        rw [hb] at h1
        rw [sat_way hu, sat_way hu, if_neg (by omega), if_neg (by omega)]
        intro hs σ hσ
        exact says_mono (b fun c hc => hn c (by simp [hc])) (b' fun c hc => hn c (by simp [hc])) (hs σ (way_plain hσ))

end Go.Proofs.Ytcfbfdjmcabnkaa

namespace Go.Proofs.Ytcfbfdjmcabnkaa
open Fw
open Go.Deep (BT)
set_option linter.unusedVariables false

variable {G : Gph} {fs : List Nat}

/-- one step ahead of a way -/
theorem way_cons {i : Nat} {σ τ : Nat → Nat} (h : FWay G fs i σ) (g : FWay G fs (σ 1) τ) : FWay G fs i (fun k => if k = 0 then i else τ (k - 1)) := by
  refine ⟨rfl, ?_, ?_⟩
  · intro k
    by_cases hk : k = 0
    · subst hk
      have := h.step 0
      rw [h.start] at this
      simpa [g.start] using this
    · have := g.step (k - 1)
      rw [show k - 1 + 1 = k from by omega] at this
      simpa [hk] using this
  · intro f hf N
    obtain ⟨k, hk, hm⟩ := g.fair f hf N
    exact ⟨k + 1, by omega, by simpa using hm⟩

theorem way_next {i : Nat} {σ : Nat → Nat} (h : FWay G fs i σ) : FWay G fs (σ 1) (fun t => σ (1 + t)) := way_rest h 1

/-- U, of a way: its first place, and the way from the next place on -/
theorem saysU_cons {A B : Nat → Prop} {σ : Nat → Nat} : says 85 A B σ ↔ B (σ 0) ∨ (A (σ 0) ∧ says 85 A B (fun t => σ (1 + t))) := by
  show (∃ k, B (σ k) ∧ ∀ j, j < k → A (σ j)) ↔ B (σ 0) ∨ (A (σ 0) ∧ ∃ k, B (σ (1 + k)) ∧ ∀ j, j < k → A (σ (1 + j)))
  constructor
  · rintro ⟨k, hb, ha⟩
    by_cases hk : k = 0
    · subst hk; exact .inl hb
    · refine .inr ⟨ha 0 (by omega), k - 1, by rw [show 1 + (k - 1) = k from by omega]; exact hb, fun j hj => ha (1 + j) (by omega)⟩
  · rintro (hb | ⟨h0, k, hb, ha⟩)
    · exact ⟨0, hb, fun j hj => by omega⟩
    · refine ⟨1 + k, hb, fun j hj => ?_⟩
      by_cases hj0 : j = 0
      · subst hj0; exact h0
      · have := ha (j - 1) (by omega)
        rw [show 1 + (j - 1) = j from by omega] at this
        exact this

theorem saysR_cons {A B : Nat → Prop} {σ : Nat → Nat} : says 82 A B σ ↔ B (σ 0) ∧ (A (σ 0) ∨ says 82 A B (fun t => σ (1 + t))) := by
  have h := saysU_cons (A := fun x => ¬ A x) (B := fun x => ¬ B x) (σ := σ)
  have e1 : says 85 (fun x => ¬ A x) (fun x => ¬ B x) σ ↔ ¬ says 82 A B σ := says_flip (sg := 82) (.inr (.inr rfl))
  have e2 : says 85 (fun x => ¬ A x) (fun x => ¬ B x) (fun t => σ (1 + t)) ↔ ¬ says 82 A B (fun t => σ (1 + t)) := says_flip (sg := 82) (.inr (.inr rfl))
  rw [e1, e2] at h
  constructor
  · intro h1
    rcases Classical.em (B (σ 0)) with hb | hb
    · refine ⟨hb, ?_⟩
      rcases Classical.em (A (σ 0)) with ha | ha
      · exact .inl ha
      · refine .inr (Classical.byContradiction fun h2 => ?_)
        exact h.2 (.inr ⟨ha, h2⟩) h1
    · exact absurd h1 (h.2 (.inl hb))
  · rintro ⟨hb, h1⟩
    refine Classical.byContradiction fun h2 => ?_
    rcases h.1 h2 with h3 | ⟨h3, h4⟩
    · exact h3 hb
    · rcases h1 with h1 | h1
      · exact h3 h1
      · exact h4 h1

/-- E[aUb] -/
theorem eu_unroll {A B : Nat → Prop} {i : Nat} : (∃ σ, FWay G fs i σ ∧ says 85 A B σ) ↔ (B i ∧ ∃ σ, FWay G fs i σ) ∨ (A i ∧ ∃ σ, FWay G fs i σ ∧ ∃ τ, FWay G fs (σ 1) τ ∧ says 85 A B τ) := by
  constructor
  · rintro ⟨σ, h, hs⟩
    rw [saysU_cons, h.start] at hs
    rcases hs with hb | ⟨ha, hs⟩
    · exact .inl ⟨hb, σ, h⟩
    · exact .inr ⟨ha, σ, h, _, way_next h, hs⟩
  · rintro (⟨hb, σ, h⟩ | ⟨ha, σ, h, τ, g, hs⟩)
    · exact ⟨σ, h, saysU_cons.2 (.inl (by rw [h.start]; exact hb))⟩
    · refine ⟨_, way_cons h g, saysU_cons.2 (.inr ⟨ha, ?_⟩)⟩
      refine (iff_of_eq (congrArg (says 85 A B) ?_)).1 hs
      funext t
      simp [show 1 + t - 1 = t from by omega]

/-- E[aRb] -/
theorem er_unroll {A B : Nat → Prop} {i : Nat} : (∃ σ, FWay G fs i σ ∧ says 82 A B σ) ↔ B i ∧ ((A i ∧ ∃ σ, FWay G fs i σ) ∨ ∃ σ, FWay G fs i σ ∧ ∃ τ, FWay G fs (σ 1) τ ∧ says 82 A B τ) := by
  constructor
  · rintro ⟨σ, h, hs⟩
    rw [saysR_cons, h.start] at hs
    obtain ⟨hb, ha | hs⟩ := hs
    · exact ⟨hb, .inl ⟨ha, σ, h⟩⟩
    · exact ⟨hb, .inr ⟨σ, h, _, way_next h, hs⟩⟩
  · rintro ⟨hb, ⟨ha, σ, h⟩ | ⟨σ, h, τ, g, hs⟩⟩
    · exact ⟨σ, h, saysR_cons.2 ⟨by rw [h.start]; exact hb, .inl (by rw [h.start]; exact ha)⟩⟩
    · refine ⟨_, way_cons h g, saysR_cons.2 ⟨hb, .inr ?_⟩⟩
      refine (iff_of_eq (congrArg (says 82 A B) ?_)).1 hs
      funext t
      simp [show 1 + t - 1 = t from by omega]

/-- A[aUb]: the contrary of E[!aR!b] -/
theorem au_unroll {A B : Nat → Prop} {i : Nat} : (∀ σ, FWay G fs i σ → says 85 A B σ) ↔ (B i ∨ ¬ ∃ σ, FWay G fs i σ) ∨ (A i ∧ ∀ σ, FWay G fs i σ → ∀ τ, FWay G fs (σ 1) τ → says 85 A B τ) := by
  have h := er_unroll (G := G) (fs := fs) (A := fun x => ¬ A x) (B := fun x => ¬ B x) (i := i)
  have e : ∀ σ : Nat → Nat, says 82 (fun x => ¬ A x) (fun x => ¬ B x) σ ↔ ¬ says 85 A B σ := fun σ => says_flip (sg := 85) (.inr (.inl rfl))
  simp only [e] at h
  have h' := not_congr h
  simp only [not_exists, not_and, Classical.not_not, not_or] at h'
  rw [h']
  constructor
  · intro h1
    rcases Classical.em (B i) with hb | hb
    · exact .inl (.inl hb)
    · obtain ⟨h2, h3⟩ := h1 hb
      rcases Classical.em (A i) with ha | ha
      · exact .inr ⟨ha, h3⟩
      · exact .inl (.inr fun ⟨σ, hσ⟩ => h2 ha σ hσ)
  · rintro ((hb | hn) | ⟨ha, h3⟩) hb'
    · exact absurd hb hb'
    · exact ⟨fun _ σ hσ => hn ⟨σ, hσ⟩, fun σ hσ => absurd ⟨σ, hσ⟩ hn⟩
    · exact ⟨fun hna => absurd ha hna, h3⟩

theorem ar_unroll {A B : Nat → Prop} {i : Nat} : (∀ σ, FWay G fs i σ → says 82 A B σ) ↔ (¬ ∃ σ, FWay G fs i σ) ∨ (B i ∧ (A i ∨ ∀ σ, FWay G fs i σ → ∀ τ, FWay G fs (σ 1) τ → says 82 A B τ)) := by
  have h := eu_unroll (G := G) (fs := fs) (A := fun x => ¬ A x) (B := fun x => ¬ B x) (i := i)
  have e : ∀ σ : Nat → Nat, says 85 (fun x => ¬ A x) (fun x => ¬ B x) σ ↔ ¬ says 82 A B σ := fun σ => says_flip (sg := 82) (.inr (.inr rfl))
  simp only [e] at h
  have h' := not_congr h
  simp only [not_exists, not_and, Classical.not_not, not_or] at h'
  rw [h']
  constructor
  · rintro ⟨h1, h2⟩
    rcases Classical.em (∃ σ, FWay G fs i σ) with hl | hl
    · obtain ⟨σ, hσ⟩ := hl
      have hb : B i := Classical.byContradiction fun hb => h1 hb σ hσ
      rcases Classical.em (A i) with ha | ha
      · exact .inr ⟨hb, .inl ha⟩
      · exact .inr ⟨hb, .inr (h2 ha)⟩
    · exact .inl hl
  · rintro (hn | ⟨hb, h3⟩)
    · exact ⟨fun _ σ hσ => hn ⟨σ, hσ⟩, fun _ σ hσ => absurd ⟨σ, hσ⟩ hn⟩
    · refine ⟨fun hb' => absurd hb hb', fun ha => ?_⟩
      rcases h3 with h3 | h3
      · exact absurd h3 ha
      · exact h3

end Go.Proofs.Ytcfbfdjmcabnkaa

namespace Go.Proofs.Ytcfbfdjmcabnkaa
open Fw
open Go.Deep (BT)
set_option linter.unusedVariables false

/-- what must still come: what lies beneath is not looked at -/
theorem fol_local {top : Nat} {st x : List Nat} {c : Nat} (h : fol top st c = some x) (S : List Nat) : fol top (st ++ S) c = some (x ++ S) := by
  unfold fol at h ⊢
  repeat' split at h
  all_goals first | (cases h; done) | (injection h with h; subst h; simp_all)

theorem fol_local_none {top : Nat} {st : List Nat} {c : Nat} (h : fol top st c = none) (S : List Nat) : fol top (st ++ S) c = none := by
  unfold fol at h ⊢
  repeat' split at h
  all_goals first | (cases h; done) | simp_all

theorem auto_run : ∀ (l : List UInt8) (st : List Nat),
    (∃ a c b, l = a ++ c :: b ∧ ∀ S q, auto (st ++ S) (l ++ q) = auto S (c :: (b ++ q))) ∨ (∃ x, ∀ S q, auto (st ++ S) (l ++ q) = auto (x ++ S) q) ∨ (∀ S q, (auto (st ++ S) (l ++ q)).1 ≠ []) := by
  intro l
  induction l with
  | nil => intro st; exact .inr (.inl ⟨st, fun S q => rfl⟩)
  | cons c r ih =>
    intro st
    cases st with
    | nil => exact .inl ⟨[], c, r, rfl, fun S q => rfl⟩
    | cons top s =>
      cases hf : fol top s c.toNat with
      | some x =>
        have e : ∀ S q, auto (top :: s ++ S) (c :: r ++ q) = auto (x ++ S) (r ++ q) := fun S q => auto_yes (fol_local hf S)
        rcases ih x with ⟨a, d, b, h1, h2⟩ | ⟨y, h2⟩ | h2
        · exact .inl ⟨c :: a, d, b, by rw [h1]; rfl, fun S q => by rw [e, h2]⟩
        · exact .inr (.inl ⟨y, fun S q => by rw [e, h2]⟩)
        · exact .inr (.inr fun S q => by rw [e]; exact h2 S q)
      | none =>
        refine .inr (.inr fun S q => ?_)
        have : auto (top :: s ++ S) (c :: r ++ q) = (top :: (s ++ S), c :: (r ++ q)) := auto_no (fol_local_none hf S)
        rw [this]
        simp

/-- a text that is read whole from 'a formula' is one -/
theorem good_of_auto {g : List UInt8} (h : auto [102] g = ([], [])) : ∃ t, good t ∧ g = txt t := by
  rcases auto_pt g with ⟨h1, h2⟩ | ⟨h1, st, hst, h2⟩
  · rw [h] at h2
    obtain ⟨e, gd⟩ := pt_sound _ g h1
    injection h2 with _ h3
    rw [← h3, List.append_nil] at e
    exact ⟨_, gd, e⟩
  · rw [h] at h2
    injection h2 with h3 _
    exact absurd h3.symm hst

/-- a part that stands in two texts, each a formula, behind what asks for a formula, is a formula: if no byte may stand behind both -/
theorem part_good {g : List UInt8} {d1 d2 : Nat} {T1 T2 : List Nat} {c1 c2 : UInt8} {q1 q2 : List UInt8}
    (h1 : auto (102 :: d1 :: T1) (g ++ c1 :: q1) = ([], [])) (h2 : auto (102 :: d2 :: T2) (g ++ c2 :: q2) = ([], []))
    (hc : ∀ top s s', fol top s c1.toNat = none ∨ fol top s' c2.toNat = none) (hd : ∀ c, fol d1 T1 c = none ∨ fol d2 T2 c = none) : ∃ t, good t ∧ g = txt t := by
  rcases auto_run g [102] with ⟨a, c, b, e, h3⟩ | ⟨x, h3⟩ | h3
  · exfalso
    have f1 := h3 (d1 :: T1) (c1 :: q1)
    have f2 := h3 (d2 :: T2) (c2 :: q2)
    rw [List.singleton_append, h1] at f1
    rw [List.singleton_append, h2] at f2
    rcases hd c.toNat with h | h
    · rw [auto_no h] at f1; injection f1 with f1 _; cases f1
    · rw [auto_no h] at f2; injection f2 with f2 _; cases f2
  · cases x with
    | nil =>
      refine good_of_auto ?_
      have f := h3 [] []
      rw [List.append_nil, List.append_nil, List.append_nil, auto_nil] at f
      exact f
    | cons top s =>
      exfalso
      have f1 := h3 (d1 :: T1) (c1 :: q1)
      have f2 := h3 (d2 :: T2) (c2 :: q2)
      rw [List.singleton_append, h1] at f1
      rw [List.singleton_append, h2] at f2
      rcases hc top (s ++ d1 :: T1) (s ++ d2 :: T2) with h | h
      · rw [List.cons_append, auto_no h] at f1; injection f1 with f1 _; cases f1
      · rw [List.cons_append, auto_no h] at f2; injection f2 with f2 _; cases f2
  · exfalso
    have := h3 (d1 :: T1) (c1 :: q1)
    rw [List.singleton_append, h1] at this
    exact this rfl

end Go.Proofs.Ytcfbfdjmcabnkaa

namespace Go.Proofs.Ytcfbfdjmcabnkaa
open Fw
open Go.Deep (BT)
set_option linter.unusedVariables false

/-- how the stack looks: behind 'U or R' comes a formula, then ']' -/
inductive OkS : List Nat → Prop
  | nil : OkS []
  | f {s} : OkS s → OkS (102 :: s)
  | o {s} : OkS s → OkS (111 :: s)
  | w {s} : OkS s → OkS (119 :: s)
  | b {s} : OkS s → OkS (41 :: s)
  | e {s} : OkS s → OkS (93 :: s)
  | u {s} : OkS (102 :: 93 :: s) → OkS (117 :: 102 :: 93 :: s)

theorem OkS.tail {top : Nat} {s : List Nat} (h : OkS (top :: s)) : OkS s := by
  cases h <;> assumption

theorem OkS.fol {top : Nat} {s x : List Nat} {c : Nat} (h : OkS (top :: s)) (hf : fol top s c = some x) : OkS x := by
  have ht := h.tail
  unfold Fw.fol at hf
  split at hf
  · split at hf
    · injection hf with hf; subst hf; exact ht
    · split at hf
      · injection hf with hf; subst hf; exact .f ht
      · split at hf
        · injection hf with hf; subst hf; exact .f (.o (.f (.b ht)))
        · split at hf
          · injection hf with hf; subst hf; exact .w ht
          · cases hf
  · split at hf
    · split at hf
      · injection hf with hf; subst hf; exact ht
      · cases hf
    · split at hf
      · split at hf
        · injection hf with hf; subst hf; exact ht
        · cases hf
      · split at hf
        · split at hf
          · injection hf with hf; subst hf; exact .f (.u (.f (.e ht)))
          · split at hf
            · injection hf with hf; subst hf; exact .f ht
            · cases hf
        · split at hf
          · injection hf with hf; subst hf; exact ht
          · cases hf

theorem ur_top {top : Nat} {s x : List Nat} {c : Nat} (h : OkS (top :: s)) (hc : c = 85 ∨ c = 82) (hf : fol top s c = some x) : ∃ T, x = 102 :: 93 :: T := by
  cases h with
  | u h => rw [fol_117, if_pos hc] at hf; injection hf with hf; exact ⟨_, hf.symm⟩
  | f h => rcases hc with rfl | rfl <;> simp [Fw.fol, isAtom] at hf
  | o h => rcases hc with rfl | rfl <;> simp [Fw.fol] at hf
  | w h => rcases hc with rfl | rfl <;> simp [Fw.fol] at hf
  | b h => rcases hc with rfl | rfl <;> simp [Fw.fol] at hf
  | e h => rcases hc with rfl | rfl <;> simp [Fw.fol] at hf

/-- behind U or R, wherever it stands, a formula is asked, then ']' -/
theorem after_ur {u : UInt8} (hu : u.toNat = 85 ∨ u.toNat = 82) {g : List UInt8} : ∀ (f : List UInt8) (st : List Nat), OkS st → auto st (f ++ u :: g) = ([], []) → ∃ T, auto (102 :: 93 :: T) g = ([], []) := by
  intro f
  induction f with
  | nil =>
    intro st ho h
    cases st with
    | nil => rw [auto_nil] at h; injection h with _ h; cases h
    | cons top s =>
      cases hf : fol top s u.toNat with
      | none =>
        have : auto (top :: s) ([] ++ u :: g) = (top :: s, u :: g) := auto_no hf
        rw [this] at h; injection h with h _; cases h
      | some x =>
        have e : auto (top :: s) ([] ++ u :: g) = auto x g := auto_yes hf
        obtain ⟨T, hT⟩ := ur_top ho hu hf
        rw [e, hT] at h
        exact ⟨T, h⟩
  | cons c r ih =>
    intro st ho h
    cases st with
    | nil => rw [auto_nil] at h; injection h with _ h; cases h
    | cons top s =>
      cases hf : fol top s c.toNat with
      | none =>
        have : auto (top :: s) (c :: r ++ u :: g) = (top :: s, c :: (r ++ u :: g)) := auto_no hf
        rw [this] at h; injection h with h _; cases h
      | some x =>
        have e : auto (top :: s) (c :: r ++ u :: g) = auto x (r ++ u :: g) := auto_yes hf
        rw [e] at h
        exact ih x (ho.fol hf) h

theorem good_auto {t : Fm} (h : good t) : auto [102] (txt t) = ([], []) := by
  have := auto_txt t h [] []
  rw [List.append_nil] at this
  rw [this]; rfl

/-- no byte's place holds both -/
theorem no_both {a b : Nat} (hab : (a = 93 ∧ (b = 38 ∨ b = 43)) ∨ ((a = 85 ∨ a = 82) ∧ (b = 38 ∨ b = 43))) (top : Nat) (s s' : List Nat) : fol top s a = none ∨ fol top s' b = none := by
  by_cases h1 : top = 102
  · subst h1
    left
    rcases hab with ⟨rfl, _⟩ | ⟨rfl | rfl, _⟩ <;> simp [Fw.fol, isAtom]
  · by_cases h2 : top = 111
    · subst h2
      left
      rcases hab with ⟨rfl, _⟩ | ⟨rfl | rfl, _⟩ <;> simp [Fw.fol]
    · by_cases h3 : top = 117
      · subst h3
        right
        rcases hab with ⟨_, rfl | rfl⟩ | ⟨_, rfl | rfl⟩ <;> simp [Fw.fol]
      · by_cases h4 : top = 119
        · subst h4
          left
          rcases hab with ⟨rfl, _⟩ | ⟨rfl | rfl, _⟩ <;> simp [Fw.fol]
        · unfold Fw.fol
          rw [if_neg h1, if_neg h2, if_neg h3, if_neg h4, if_neg h1, if_neg h2, if_neg h3, if_neg h4]
          by_cases h5 : a = top
          · right; rw [if_neg (by omega)]
          · left; rw [if_neg h5]

theorem no_111 {d : Nat} (hd : d = 93 ∨ d = 117) (T1 T2 : List Nat) (c : Nat) : fol d T1 c = none ∨ fol 111 T2 c = none := by
  by_cases h : c = 38 ∨ c = 43
  · left
    rcases hd with rfl | rfl
    · rw [fol_93', if_neg (by omega)]
    · rw [fol_117, if_neg (by omega)]
  · right
    rw [fol_111, if_neg h]

/-- the second part: of E[fUg], and of a text in which it stands behind what asks for a formula, and ahead of & or + -/
theorem second_good {f g : List UInt8} {u c2 : UInt8} {wy : UInt8} {T2 : List Nat} {q2 : List UInt8} (hw : wy.toNat = 69 ∨ wy.toNat = 65) (hu : u.toNat = 85 ∨ u.toNat = 82) (h2' : c2.toNat = 38 ∨ c2.toNat = 43)
    (h1 : auto [102] (wy :: 91 :: (f ++ u :: (g ++ [93]))) = ([], [])) (h2 : auto (102 :: 111 :: T2) (g ++ c2 :: q2) = ([], [])) : ∃ t, good t ∧ g = txt t := by
  rw [auto_yes (fol_way [] hw), auto_yes (fol_br [])] at h1
  obtain ⟨T, h3⟩ := after_ur hu f _ (.f (.u (.f (.e .nil)))) h1
  exact part_good (d1 := 93) (d2 := 111) h3 h2 (fun top s s' => no_both (.inl ⟨by decide, h2'⟩) top s s') (fun c => no_111 (.inl rfl) T T2 c)

/-- the first part -/
theorem first_good {f g : List UInt8} {u c2 : UInt8} {wy : UInt8} {T2 : List Nat} {q2 : List UInt8} (hw : wy.toNat = 69 ∨ wy.toNat = 65) (hu : u.toNat = 85 ∨ u.toNat = 82) (h2' : c2.toNat = 38 ∨ c2.toNat = 43)
    (h1 : auto [102] (wy :: 91 :: (f ++ u :: (g ++ [93]))) = ([], [])) (h2 : auto (102 :: 111 :: T2) (f ++ c2 :: q2) = ([], [])) : ∃ t, good t ∧ f = txt t := by
  rw [auto_yes (fol_way [] hw), auto_yes (fol_br [])] at h1
  exact part_good (d1 := 117) (d2 := 111) h1 h2 (fun top s s' => no_both (.inr ⟨hu, h2'⟩) top s s') (fun c => no_111 (.inr rfl) _ T2 c)

end Go.Proofs.Ytcfbfdjmcabnkaa

namespace Go.Proofs.Ytcfbfdjmcabnkaa
open Fw
open Go.Deep (BT)
set_option linter.unusedVariables false

variable {G : Gph} {fs : List Nat}

def tT : Fm := .node 84 0 () .nil .nil
def tNx (wy : Nat) (t : Fm) : Fm := .node 88 wy () t .nil
def tNot (t : Fm) : Fm := .node 33 0 () t .nil
def tAnd (a b : Fm) : Fm := .node 38 0 () a b
def tOr (a b : Fm) : Fm := .node 43 0 () a b
def tWay (sg wy : Nat) (a b : Fm) : Fm := .node sg wy () a b

def unEU (a b : Fm) : Fm := tOr (tAnd b (tNx 69 tT)) (tAnd a (tNx 69 (tWay 85 69 a b)))
def unER (a b : Fm) : Fm := tAnd b (tOr (tAnd a (tNx 69 tT)) (tNx 69 (tWay 82 69 a b)))
def unAU (a b : Fm) : Fm := tOr (tOr b (tNx 65 (tNot tT))) (tAnd a (tNx 65 (tWay 85 65 a b)))
def unAR (a b : Fm) : Fm := tOr (tNx 65 (tNot tT)) (tAnd b (tOr a (tNx 65 (tWay 82 65 a b))))

theorem sat_T (i : Nat) : sat G fs tT i := by
  rw [tT, sat_atom_is (by decide)]
  exact .inl rfl
theorem sat_ex (t : Fm) (i : Nat) : sat G fs (tNx 69 t) i ↔ ∃ σ, FWay G fs i σ ∧ sat G fs t (σ 1) := by
  rw [tNx, sat_way (.inl rfl), if_pos rfl]; rfl
theorem sat_ax (t : Fm) (i : Nat) : sat G fs (tNx 65 t) i ↔ ∀ σ, FWay G fs i σ → sat G fs t (σ 1) := by
  rw [tNx, sat_way (.inl rfl), if_neg (by omega)]; rfl
theorem sat_e {sg : Nat} (h : sg = 85 ∨ sg = 82) (a b : Fm) (i : Nat) : sat G fs (tWay sg 69 a b) i ↔ ∃ σ, FWay G fs i σ ∧ says sg (sat G fs a) (sat G fs b) σ := by
  rw [tWay, sat_way (.inr h), if_pos rfl]
theorem sat_a {sg : Nat} (h : sg = 85 ∨ sg = 82) (a b : Fm) (i : Nat) : sat G fs (tWay sg 65 a b) i ↔ ∀ σ, FWay G fs i σ → says sg (sat G fs a) (sat G fs b) σ := by
  rw [tWay, sat_way (.inr h), if_neg (by omega)]

theorem sat_exT (i : Nat) : sat G fs (tNx 69 tT) i ↔ ∃ σ, FWay G fs i σ := by
  rw [sat_ex]
  exact ⟨fun ⟨σ, h, _⟩ => ⟨σ, h⟩, fun ⟨σ, h⟩ => ⟨σ, h, sat_T _⟩⟩
theorem sat_axF (i : Nat) : sat G fs (tNx 65 (tNot tT)) i ↔ ¬ ∃ σ, FWay G fs i σ := by
  rw [sat_ax]
  constructor
  · rintro h ⟨σ, hσ⟩
    have := h σ hσ
    rw [tNot, sat_not] at this
    exact this (sat_T _)
  · intro h σ hσ
    exact absurd ⟨σ, hσ⟩ h

theorem un_eu (a b : Fm) (i : Nat) : sat G fs (tWay 85 69 a b) i ↔ sat G fs (unEU a b) i := by
  rw [sat_e (.inl rfl), eu_unroll, unEU, tOr, sat_or, tAnd, sat_and, tAnd, sat_and, sat_exT, sat_ex]
  simp only [sat_e (.inl rfl)]
theorem un_er (a b : Fm) (i : Nat) : sat G fs (tWay 82 69 a b) i ↔ sat G fs (unER a b) i := by
  rw [sat_e (.inr rfl), er_unroll, unER, tAnd, sat_and, tOr, sat_or, tAnd, sat_and, sat_exT, sat_ex]
  simp only [sat_e (.inr rfl)]
theorem un_au (a b : Fm) (i : Nat) : sat G fs (tWay 85 65 a b) i ↔ sat G fs (unAU a b) i := by
  rw [sat_a (.inl rfl), au_unroll, unAU, tOr, sat_or, tOr, sat_or, tAnd, sat_and, sat_axF, sat_ax]
  simp only [sat_a (.inl rfl)]
theorem un_ar (a b : Fm) (i : Nat) : sat G fs (tWay 82 65 a b) i ↔ sat G fs (unAR a b) i := by
  rw [sat_a (.inr rfl), ar_unroll, unAR, tOr, sat_or, tAnd, sat_and, tOr, sat_or, sat_axF, sat_ax]
  simp only [sat_a (.inr rfl)]

theorem good_T : good tT := good_atom (by decide)
theorem good_un {a b : Fm} (ha : good a) (hb : good b) : good (tWay 85 69 a b) ∧ good (tWay 82 69 a b) ∧ good (tWay 85 65 a b) ∧ good (tWay 82 65 a b) ∧ good (unEU a b) ∧ good (unER a b) ∧ good (unAU a b) ∧ good (unAR a b) := by
  have w1 : good (tWay 85 69 a b) := good_two (.inr ⟨.inl rfl, .inl rfl⟩) ha hb
  have w2 : good (tWay 82 69 a b) := good_two (.inr ⟨.inr rfl, .inl rfl⟩) ha hb
  have w3 : good (tWay 85 65 a b) := good_two (.inr ⟨.inl rfl, .inr rfl⟩) ha hb
  have w4 : good (tWay 82 65 a b) := good_two (.inr ⟨.inr rfl, .inr rfl⟩) ha hb
  have nx : ∀ {wy t}, (wy = 69 ∨ wy = 65) → good t → good (tNx wy t) := fun h g => good_one (.inr ⟨rfl, h⟩) g
  have an : ∀ {x y}, good x → good y → good (tAnd x y) := fun h g => good_two (.inl ⟨.inl rfl, rfl⟩) h g
  have orr : ∀ {x y}, good x → good y → good (tOr x y) := fun h g => good_two (.inl ⟨.inr rfl, rfl⟩) h g
  have nt : good (tNot tT) := good_one (.inl ⟨rfl, rfl⟩) good_T
  exact ⟨w1, w2, w3, w4, orr (an hb (nx (.inl rfl) good_T)) (an ha (nx (.inl rfl) w1)), an hb (orr (an ha (nx (.inl rfl) good_T)) (nx (.inl rfl) w2)),
    orr (orr hb (nx (.inr rfl) nt)) (an ha (nx (.inr rfl) w3)), orr (nx (.inr rfl) nt) (an hb (orr ha (nx (.inr rfl) w4)))⟩

theorem txt_T : txt tT = [84] := by rw [tT, txt_atom (by decide)]; rfl
theorem txt_nx (wy : Nat) (t : Fm) : txt (tNx wy t) = b8 wy :: 88 :: txt t := txt_one88 t wy
theorem txt_not (t : Fm) : txt (tNot t) = 33 :: txt t := txt_one33 t 0
theorem txt_and (a b : Fm) : txt (tAnd a b) = 40 :: (txt a ++ 38 :: (txt b ++ [41])) := txt_bin (.inl rfl) 0 a b
theorem txt_or (a b : Fm) : txt (tOr a b) = 40 :: (txt a ++ 43 :: (txt b ++ [41])) := txt_bin (.inr rfl) 0 a b
theorem txt_w {sg wy : Nat} (h : sg = 85 ∨ sg = 82) (a b : Fm) : txt (tWay sg wy a b) = b8 wy :: 91 :: (txt a ++ b8 sg :: (txt b ++ [93])) := txt_way h wy a b

theorem txt_unEU (a b : Fm) : txt (unEU a b) = 40 :: 40 :: (txt b ++ 38 :: 69 :: 88 :: 84 :: 41 :: 43 :: 40 :: (txt a ++ 38 :: 69 :: 88 :: 69 :: 91 :: (txt a ++ 85 :: (txt b ++ [93, 41, 41])))) := by
  rw [unEU, txt_or, txt_and, txt_and, txt_nx, txt_nx, txt_T, txt_w (.inl rfl)]
  simp [b8]
theorem txt_unER (a b : Fm) : txt (unER a b) = 40 :: (txt b ++ 38 :: 40 :: 40 :: (txt a ++ 38 :: 69 :: 88 :: 84 :: 41 :: 43 :: 69 :: 88 :: 69 :: 91 :: (txt a ++ 82 :: (txt b ++ [93, 41, 41])))) := by
  rw [unER, txt_and, txt_or, txt_and, txt_nx, txt_nx, txt_T, txt_w (.inr rfl)]
  simp [b8]
theorem txt_unAU (a b : Fm) : txt (unAU a b) = 40 :: 40 :: (txt b ++ 43 :: 65 :: 88 :: 33 :: 84 :: 41 :: 43 :: 40 :: (txt a ++ 38 :: 65 :: 88 :: 65 :: 91 :: (txt a ++ 85 :: (txt b ++ [93, 41, 41])))) := by
  rw [unAU, txt_or, txt_or, txt_and, txt_nx, txt_nx, txt_not, txt_T, txt_w (.inl rfl)]
  simp [b8]
theorem txt_unAR (a b : Fm) : txt (unAR a b) = 40 :: 65 :: 88 :: 33 :: 84 :: 43 :: 40 :: (txt b ++ 38 :: 40 :: (txt a ++ 43 :: 65 :: 88 :: 65 :: 91 :: (txt a ++ 82 :: (txt b ++ [93, 41, 41, 41])))) := by
  rw [unAR, txt_or, txt_and, txt_or, txt_nx, txt_nx, txt_not, txt_T, txt_w (.inr rfl)]
  simp [b8]

end Go.Proofs.Ytcfbfdjmcabnkaa

namespace Go.Proofs.Ytcfbfdjmcabnkaa
open Fw
open Go.Deep (BT)
set_option linter.unusedVariables false

theorem parts_EU {f g : List UInt8} (h1 : auto [102] (69 :: 91 :: (f ++ 85 :: (g ++ [93]))) = ([], []))
    (h2 : auto [102] (40 :: 40 :: (g ++ 38 :: 69 :: 88 :: 84 :: 41 :: 43 :: 40 :: (f ++ 38 :: 69 :: 88 :: 69 :: 91 :: (f ++ 85 :: (g ++ [93, 41, 41]))))) = ([], [])) :
    ∃ a b, good a ∧ good b ∧ f = txt a ∧ g = txt b := by
  have e1 : ∀ r, auto [102] (40 :: 40 :: r) = auto (102 :: 111 :: [102, 41, 111, 102, 41]) r := fun r => rfl
  rw [e1] at h2
  obtain ⟨b, gb, hb⟩ := second_good (wy := 69) (u := 85) (c2 := 38) (.inl rfl) (.inl rfl) (.inl rfl) h1 h2
  have e2 : ∀ r, auto (111 :: [102, 41, 111, 102, 41]) (38 :: 69 :: 88 :: 84 :: 41 :: 43 :: 40 :: r) = auto (102 :: 111 :: [102, 41, 41]) r := fun r => rfl
  rw [hb, auto_txt b gb, e2] at h2
  obtain ⟨a, ga, ha⟩ := first_good (wy := 69) (u := 85) (c2 := 38) (.inl rfl) (.inl rfl) (.inl rfl) h1 h2
  exact ⟨a, b, ga, gb, ha, hb⟩

theorem parts_ER {f g : List UInt8} (h1 : auto [102] (69 :: 91 :: (f ++ 82 :: (g ++ [93]))) = ([], []))
    (h2 : auto [102] (40 :: (g ++ 38 :: 40 :: 40 :: (f ++ 38 :: 69 :: 88 :: 84 :: 41 :: 43 :: 69 :: 88 :: 69 :: 91 :: (f ++ 82 :: (g ++ [93, 41, 41]))))) = ([], [])) :
    ∃ a b, good a ∧ good b ∧ f = txt a ∧ g = txt b := by
  have e1 : ∀ r, auto [102] (40 :: r) = auto (102 :: 111 :: [102, 41]) r := fun r => rfl
  rw [e1] at h2
  obtain ⟨b, gb, hb⟩ := second_good (wy := 69) (u := 82) (c2 := 38) (.inl rfl) (.inr rfl) (.inl rfl) h1 h2
  have e2 : ∀ r, auto (111 :: [102, 41]) (38 :: 40 :: 40 :: r) = auto (102 :: 111 :: [102, 41, 111, 102, 41, 41]) r := fun r => rfl
  rw [hb, auto_txt b gb, e2] at h2
  obtain ⟨a, ga, ha⟩ := first_good (wy := 69) (u := 82) (c2 := 38) (.inl rfl) (.inr rfl) (.inl rfl) h1 h2
  exact ⟨a, b, ga, gb, ha, hb⟩

theorem parts_AU {f g : List UInt8} (h1 : auto [102] (65 :: 91 :: (f ++ 85 :: (g ++ [93]))) = ([], []))
    (h2 : auto [102] (40 :: 40 :: (g ++ 43 :: 65 :: 88 :: 33 :: 84 :: 41 :: 43 :: 40 :: (f ++ 38 :: 65 :: 88 :: 65 :: 91 :: (f ++ 85 :: (g ++ [93, 41, 41]))))) = ([], [])) :
    ∃ a b, good a ∧ good b ∧ f = txt a ∧ g = txt b := by
  have e1 : ∀ r, auto [102] (40 :: 40 :: r) = auto (102 :: 111 :: [102, 41, 111, 102, 41]) r := fun r => rfl
  rw [e1] at h2
  obtain ⟨b, gb, hb⟩ := second_good (wy := 65) (u := 85) (c2 := 43) (.inr rfl) (.inl rfl) (.inr rfl) h1 h2
  have e2 : ∀ r, auto (111 :: [102, 41, 111, 102, 41]) (43 :: 65 :: 88 :: 33 :: 84 :: 41 :: 43 :: 40 :: r) = auto (102 :: 111 :: [102, 41, 41]) r := fun r => rfl
  rw [hb, auto_txt b gb, e2] at h2
  obtain ⟨a, ga, ha⟩ := first_good (wy := 65) (u := 85) (c2 := 38) (.inr rfl) (.inl rfl) (.inl rfl) h1 h2
  exact ⟨a, b, ga, gb, ha, hb⟩

theorem parts_AR {f g : List UInt8} (h1 : auto [102] (65 :: 91 :: (f ++ 82 :: (g ++ [93]))) = ([], []))
    (h2 : auto [102] (40 :: 65 :: 88 :: 33 :: 84 :: 43 :: 40 :: (g ++ 38 :: 40 :: (f ++ 43 :: 65 :: 88 :: 65 :: 91 :: (f ++ 82 :: (g ++ [93, 41, 41, 41]))))) = ([], [])) :
    ∃ a b, good a ∧ good b ∧ f = txt a ∧ g = txt b := by
  have e1 : ∀ r, auto [102] (40 :: 65 :: 88 :: 33 :: 84 :: 43 :: 40 :: r) = auto (102 :: 111 :: [102, 41, 41]) r := fun r => rfl
  rw [e1] at h2
  obtain ⟨b, gb, hb⟩ := second_good (wy := 65) (u := 82) (c2 := 38) (.inr rfl) (.inr rfl) (.inl rfl) h1 h2
  have e2 : ∀ r, auto (111 :: [102, 41, 41]) (38 :: 40 :: r) = auto (102 :: 111 :: [102, 41, 41, 41]) r := fun r => rfl
  rw [hb, auto_txt b gb, e2] at h2
  obtain ⟨a, ga, ha⟩ := first_good (wy := 65) (u := 82) (c2 := 43) (.inr rfl) (.inr rfl) (.inr rfl) h1 h2
  exact ⟨a, b, ga, gb, ha, hb⟩

end Go.Proofs.Ytcfbfdjmcabnkaa

namespace Go.Proofs.Ytcfbfdjmcabnkaa
open Fw
open Go.Deep (BT)
set_option linter.unusedVariables false

/-- one graph, numbered in two ways -/
structure Iso (G H : Gph) (π ρ : Nat → Nat) : Prop where
  gok : G.ok
  hok : H.ok
  n : G.n = H.n
  lt : ∀ i, i < G.n → π i < G.n
  lt' : ∀ i, i < G.n → ρ i < G.n
  rp : ∀ i, i < G.n → ρ (π i) = i
  pr : ∀ i, i < G.n → π (ρ i) = i
  e : ∀ i j, i < G.n → j < G.n → H.e (π i) (π j) = G.e i j
  m : ∀ i c, i < G.n → H.m (π i) c = G.m i c

variable {G H : Gph} {π ρ : Nat → Nat} {fs : List Nat}

theorem Iso.way (h : Iso G H π ρ) {i : Nat} {σ : Nat → Nat} (hw : FWay G fs i σ) : FWay H fs (π i) (fun k => π (σ k)) := by
  have hl : ∀ k, σ k < G.n := fun k => (h.gok _ _ (hw.step k)).1
  refine ⟨by rw [hw.start], fun k => ?_, fun f hf N => ?_⟩
  · rw [h.e _ _ (hl k) (hl (k + 1))]
    exact hw.step k
  · obtain ⟨k, hk, hm⟩ := hw.fair f hf N
    exact ⟨k, hk, by rw [h.m _ _ (hl k)]; exact hm⟩

theorem Iso.back (h : Iso G H π ρ) : Iso H G ρ π := by
  refine ⟨h.hok, h.gok, h.n.symm, ?_, ?_, ?_, ?_, ?_, ?_⟩
  · rw [← h.n]; exact h.lt'
  · rw [← h.n]; exact h.lt
  · rw [← h.n]; exact h.pr
  · rw [← h.n]; exact h.rp
  · rw [← h.n]
    intro i j hi hj
    rw [← h.e _ _ (h.lt' i hi) (h.lt' j hj), h.pr i hi, h.pr j hj]
  · rw [← h.n]
    intro i c hi
    rw [← h.m _ _ (h.lt' i hi), h.pr i hi]

theorem says_along {sg : Nat} {A B A' B' : Nat → Prop} {σ τ : Nat → Nat} (ha : ∀ k, A (σ k) ↔ A' (τ k)) (hb : ∀ k, B (σ k) ↔ B' (τ k)) : says sg A B σ ↔ says sg A' B' τ := by
  unfold says
  simp only [ha, hb]

theorem Iso.ex (h : Iso G H π ρ) {A B A' B' : Nat → Prop} (ha : ∀ i, i < G.n → (A i ↔ A' (π i))) (hb : ∀ i, i < G.n → (B i ↔ B' (π i))) {sg i : Nat} (hi : i < G.n) :
    (∃ σ, FWay G fs i σ ∧ says sg A B σ) ↔ ∃ τ, FWay H fs (π i) τ ∧ says sg A' B' τ := by
  constructor
  · rintro ⟨σ, hw, hs⟩
    have hl : ∀ k, σ k < G.n := fun k => (h.gok _ _ (hw.step k)).1
    exact ⟨_, h.way hw, (says_along (fun k => ha _ (hl k)) (fun k => hb _ (hl k))).1 hs⟩
  · rintro ⟨τ, hw, hs⟩
    have hl : ∀ k, τ k < G.n := fun k => by rw [h.n]; exact (h.hok _ _ (hw.step k)).1
    have hb' := h.back.way hw
    rw [h.rp i hi] at hb'
    refine ⟨_, hb', (says_along (fun k => ?_) (fun k => ?_)).1 hs⟩
    · rw [ha _ (h.lt' _ (hl k)), h.pr _ (hl k)]
    · rw [hb _ (h.lt' _ (hl k)), h.pr _ (hl k)]

theorem Iso.all (h : Iso G H π ρ) {A B A' B' : Nat → Prop} (ha : ∀ i, i < G.n → (A i ↔ A' (π i))) (hb : ∀ i, i < G.n → (B i ↔ B' (π i))) {sg i : Nat} (hi : i < G.n) :
    (∀ σ, FWay G fs i σ → says sg A B σ) ↔ ∀ τ, FWay H fs (π i) τ → says sg A' B' τ := by
  constructor
  · intro hs τ hw
    have hl : ∀ k, τ k < G.n := fun k => by rw [h.n]; exact (h.hok _ _ (hw.step k)).1
    have hb' := h.back.way hw
    rw [h.rp i hi] at hb'
    refine (says_along (fun k => ?_) (fun k => ?_)).1 (hs _ hb')
    · rw [ha _ (h.lt' _ (hl k)), h.pr _ (hl k)]
    · rw [hb _ (h.lt' _ (hl k)), h.pr _ (hl k)]
  · intro hs σ hw
    have hl : ∀ k, σ k < G.n := fun k => (h.gok _ _ (hw.step k)).1
    exact (says_along (fun k => ha _ (hl k)) (fun k => hb _ (hl k))).2 (hs _ (h.way hw))

/-- A FORMULA HOLDS IN THE SAME STATES, HOWEVER THEY ARE NUMBERED -/
theorem iso_sat (h : Iso G H π ρ) : ∀ (t : Fm), good t → ∀ i, i < G.n → (sat G fs t i ↔ sat H fs t (π i)) := by
  intro t
  induction t with
  | nil => intro h; exact absurd h (by simp [good])
  | node sg wy u l r ihl ihr =>
    intro hg i hi
    rcases good_cases hg with ⟨c, e, hc, ht⟩ | ⟨x, e, hx, ht⟩ | ⟨s, x, y, e, hs, hx, hy, ht⟩ | ⟨v, x, e, hv, hx, ht⟩ | ⟨s, v, x, y, e, hs, hv, hx, hy, ht⟩
    · rw [e, sat_atom_is hc, sat_atom_is hc, h.m i c hi]
    · injection e with e3 e0 _ e1 e2
      subst e3 e0 e1 e2
      rw [sat_not, sat_not, ihl hx i hi]
    · injection e with e3 e0 _ e1 e2
      subst e3 e0 e1 e2
      rcases hs with rfl | rfl
      · rw [sat_and, sat_and, ihl hx i hi, ihr hy i hi]
      · rw [sat_or, sat_or, ihl hx i hi, ihr hy i hi]
    · injection e with e3 e0 _ e1 e2
      subst e3 e0 e1 e2
      rw [sat_way (.inl rfl), sat_way (.inl rfl)]
      have hb : ∀ i, i < G.n → (sat G fs .nil i ↔ sat H fs .nil (π i)) := fun i _ => by simp [sat]
      rcases hv with rfl | rfl
      · rw [if_pos rfl, if_pos rfl]
        exact h.ex (ihl hx) hb hi
      · rw [if_neg (by omega), if_neg (by omega)]
        exact h.all (ihl hx) hb hi
    · injection e with e3 e0 _ e1 e2
      subst e3 e0 e1 e2
      rw [sat_way (.inr hs), sat_way (.inr hs)]
      rcases hv with rfl | rfl
      · rw [if_pos rfl, if_pos rfl]
        exact h.ex (ihl hx) (ihr hy) hi
      · rw [if_neg (by omega), if_neg (by omega)]
        exact h.all (ihl hx) (ihr hy) hi

end Go.Proofs.Ytcfbfdjmcabnkaa

namespace Go.Proofs.Ytcfbfdjmcabnkaa
open Fw
open Go.Deep (BT)
set_option linter.unusedVariables false

def tP (c : Nat) : Fm := .node c 0 () .nil .nil

/-! ### Graphs in which each state is its own next state too, without fair marks -/
section
variable {G : Gph} (self : ∀ i, i < G.n → G.e i i = true)
include self

theorem rest_way {i : Nat} (hi : i < G.n) : FWay G [] i (fun _ => i) := ⟨rfl, fun _ => self i hi, fun f hf => by simp at hf⟩

theorem reach_eu (ok : G.ok) {c : Nat} (hc : isAtom c = true) (h84 : ¬ c = 84) {i : Nat} (hi : i < G.n) : sat G [] (tWay 85 69 tT (tP c)) i ↔ ∃ j, j < G.n ∧ fw G.e (fun _ => true) G.n i j = true ∧ G.m j c = true := by
  rw [sat_e (.inl rfl)]
  have h := eu_iff (G := G) (fs := []) (A := sat G [] tT) (B := sat G [] (tP c)) (i := i)
  have e : ∀ σ, says 85 (sat G [] tT) (sat G [] (tP c)) σ ↔ ∃ k, sat G [] (tP c) (σ k) ∧ ∀ j, j < k → sat G [] tT (σ j) := fun σ => Iff.rfl
  simp only [e]
  rw [h]
  have hp : ∀ j, sat G [] (tP c) j ↔ G.m j c = true := fun j => by rw [tP, sat_atom_is hc]; simp [h84]
  constructor
  · rintro (⟨h1, _⟩ | ⟨j, ⟨h1, _⟩, h2⟩)
    · exact ⟨i, hi, by rw [fw_rch ok]; exact Rch.step rfl (self i hi), (hp i).1 h1⟩
    · have hr : Rch G.e (fun _ => true = true) i j := h2.mono fun _ _ => rfl
      exact ⟨j, (rch_lt ok hr).2, by rw [fw_rch ok]; exact hr, (hp j).1 h1⟩
  · rintro ⟨j, hj, h1, h2⟩
    rw [fw_rch ok] at h1
    exact .inr ⟨j, ⟨(hp j).2 h2, _, rest_way self hj⟩, h1.mono fun x _ => sat_T x⟩

theorem reach_er {c : Nat} (hc : isAtom c = true) (h84 : ¬ c = 84) {i : Nat} (hi : i < G.n) : sat G [] (tWay 82 69 (tNot tT) (tP c)) i ↔ G.m i c = true := by
  rw [sat_e (.inr rfl), er_unroll]
  have hp : ∀ j, sat G [] (tP c) j ↔ G.m j c = true := fun j => by rw [tP, sat_atom_is hc]; simp [h84]
  rw [hp]
  constructor
  · exact fun h => h.1
  · intro h
    refine ⟨h, .inr ⟨_, rest_way self hi, _, rest_way self hi, ?_⟩⟩
    show (∀ k, sat G [] (tP c) i) ∨ _
    exact .inl fun _ => (hp i).2 h

theorem reach_ex (ok : G.ok) {c : Nat} (hc : isAtom c = true) (h84 : ¬ c = 84) {i : Nat} (hi : i < G.n) : sat G [] (tNx 69 (tP c)) i ↔ ∃ j, j < G.n ∧ G.e i j = true ∧ G.m j c = true := by
  rw [sat_ex, ex_iff (A := sat G [] (tP c))]
  have hp : ∀ j, sat G [] (tP c) j ↔ G.m j c = true := fun j => by rw [tP, sat_atom_is hc]; simp [h84]
  constructor
  · rintro ⟨j, h1, h2, _⟩
    exact ⟨j, (ok _ _ h1).2, h1, (hp j).1 h2⟩
  · rintro ⟨j, hj, h1, h2⟩
    exact ⟨j, h1, (hp j).2 h2, _, rest_way self hj⟩

end

/-! ### Rings -/
/-- walking on from place k, m places at most -/
def wk (p q : Nat → Bool) (round : Bool) : Nat → Nat → Bool
  | 0, _ => round
  | m + 1, k =>
    if round = false then (if q k = true then true else if p k = false then false else wk p q round m (k + 1))
    else (if q k = false then false else if p k = true then true else wk p q round m (k + 1))

theorem wk_until (p q : Nat → Bool) : ∀ m k, wk p q false m k = true ↔ ∃ j, k ≤ j ∧ j < k + m ∧ q j = true ∧ ∀ t, k ≤ t → t < j → p t = true := by
  intro m
  induction m with
  | zero =>
    intro k
    simp only [wk]
    constructor
    · intro h; cases h
    · rintro ⟨j, h1, h2, _⟩; omega
  | succ m ih =>
    intro k
    rw [wk, if_pos rfl]
    by_cases hq : q k = true
    · rw [if_pos hq]
      exact ⟨fun _ => ⟨k, Nat.le_refl _, by omega, hq, fun t h1 h2 => by omega⟩, fun _ => rfl⟩
    · rw [if_neg hq]
      cases hp : p k with
      | false =>
        rw [if_pos rfl]
        constructor
        · intro h; cases h
        · rintro ⟨j, h1, h2, h3, h4⟩
          by_cases e : j = k
          · subst e; exact absurd h3 hq
          · rw [h4 k (Nat.le_refl _) (by omega)] at hp; cases hp
      | true =>
        rw [if_neg (by simp), ih]
        constructor
        · rintro ⟨j, h1, h2, h3, h4⟩
          refine ⟨j, by omega, by omega, h3, fun t h5 h6 => ?_⟩
          by_cases e : t = k
          · subst e; exact hp
          · exact h4 t (by omega) h6
        · rintro ⟨j, h1, h2, h3, h4⟩
          by_cases e : j = k
          · subst e; exact absurd h3 hq
          · exact ⟨j, by omega, by omega, h3, fun t h5 h6 => h4 t (by omega) h6⟩

theorem wk_release (p q : Nat → Bool) : ∀ m k, wk p q true m k = true ↔ (∀ j, k ≤ j → j < k + m → q j = true) ∨ ∃ j, k ≤ j ∧ j < k + m ∧ p j = true ∧ ∀ t, k ≤ t → t ≤ j → q t = true := by
  intro m
  induction m with
  | zero =>
    intro k
    simp only [wk, true_iff]
    exact .inl fun j h1 h2 => by omega
  | succ m ih =>
    intro k
    rw [wk, if_neg (by simp)]
    cases hq : q k with
    | false =>
      rw [if_pos rfl]
      constructor
      · intro h; cases h
      · rintro (h | ⟨j, h1, h2, h3, h4⟩)
        · rw [h k (Nat.le_refl _) (by omega)] at hq; cases hq
        · rw [h4 k (Nat.le_refl _) h1] at hq; cases hq
    | true =>
      rw [if_neg (by simp)]
      by_cases hp : p k = true
      · rw [if_pos hp]
        refine ⟨fun _ => .inr ⟨k, Nat.le_refl _, by omega, hp, fun t h1 h2 => ?_⟩, fun _ => rfl⟩
        rw [show t = k from by omega]; exact hq
      · rw [if_neg hp, ih]
        constructor
        · rintro (h | ⟨j, h1, h2, h3, h4⟩)
          · refine .inl fun j h1 h2 => ?_
            by_cases e : j = k
            · subst e; exact hq
            · exact h j (by omega) (by omega)
          · refine .inr ⟨j, by omega, by omega, h3, fun t h5 h6 => ?_⟩
            by_cases e : t = k
            · subst e; exact hq
            · exact h4 t (by omega) h6
        · rintro (h | ⟨j, h1, h2, h3, h4⟩)
          · exact .inl fun j h1 h2 => h j (by omega) (by omega)
          · by_cases e : j = k
            · subst e; exact absurd h3 hp
            · exact .inr ⟨j, by omega, by omega, h3, fun t h5 h6 => h4 t (by omega) h6⟩

section
variable {G : Gph} (h0 : 0 < G.n) (ring : ∀ i j, i < G.n → (G.e i j = true ↔ j = (i + 1) % G.n))
include h0 ring

theorem ring_way {fs : List Nat} {i : Nat} {σ : Nat → Nat} (hi : i < G.n) (h : FWay G fs i σ) : ∀ k, σ k = (i + k) % G.n := by
  intro k
  induction k with
  | zero => rw [h.start, Nat.add_zero, Nat.mod_eq_of_lt hi]
  | succ k ih =>
    have hl : σ k < G.n := by rw [ih]; exact Nat.mod_lt _ h0
    rw [(ring _ _ hl).1 (h.step k), ih, Nat.mod_add_mod, Nat.add_assoc]

theorem ring_is {fs : List Nat} {i : Nat} (hi : i < G.n) (hf : ∀ f ∈ fs, ∃ d, d < G.n ∧ G.m d f = true) : FWay G fs i (fun k => (i + k) % G.n) := by
  refine ⟨by simp [Nat.mod_eq_of_lt hi], fun k => ?_, fun f hff N => ?_⟩
  · rw [ring _ _ (Nat.mod_lt _ h0), Nat.mod_add_mod, Nat.add_assoc]
  · obtain ⟨d, hd, hm⟩ := hf f hff
    refine ⟨N * G.n + (G.n - i) + d, ?_, ?_⟩
    · have : N ≤ N * G.n := Nat.le_mul_of_pos_right N h0
      omega
    · show G.m ((i + (N * G.n + (G.n - i) + d)) % G.n) f = true
      rw [show i + (N * G.n + (G.n - i) + d) = d + G.n * (N + 1) from by rw [Nat.mul_add, Nat.mul_comm G.n N]; omega, Nat.add_mul_mod_self_left, Nat.mod_eq_of_lt hd]
      exact hm

theorem ring_no {fs : List Nat} {i : Nat} (hi : i < G.n) {f : Nat} (hf : f ∈ fs) (hn : ∀ d, d < G.n → G.m d f = false) : ¬ ∃ σ, FWay G fs i σ := by
  rintro ⟨σ, h⟩
  obtain ⟨k, _, hm⟩ := h.fair f hf 0
  rw [ring_way h0 ring hi h k, hn _ (Nat.mod_lt _ h0)] at hm
  cases hm

end

end Go.Proofs.Ytcfbfdjmcabnkaa

namespace Go.Proofs.Ytcfbfdjmcabnkaa
open Fw
open Go.Deep (BT)
set_option linter.unusedVariables false

/-- what is told of a way that goes round is told of one round -/
theorem round_until {p q : Nat → Bool} {n : Nat} (h0 : 0 < n) (hp : ∀ k, p (k + n) = p k) (hq : ∀ k, q (k + n) = q k) : (∃ k, q k = true ∧ ∀ j, j < k → p j = true) ↔ wk p q false n 0 = true := by
  rw [wk_until]
  constructor
  · rintro ⟨k, h1, h2⟩
    have hk : ∀ m k, k ≤ m → q k = true → (∀ j, j < k → p j = true) → ∃ j, 0 ≤ j ∧ j < 0 + n ∧ q j = true ∧ ∀ t, 0 ≤ t → t < j → p t = true := by
      intro m
      induction m with
      | zero => intro k hk h1 h2; exact ⟨k, by omega, by omega, h1, fun t _ ht => h2 t ht⟩
      | succ m ih =>
        intro k hk h1 h2
        by_cases hlt : k < n
        · exact ⟨k, by omega, by omega, h1, fun t _ ht => h2 t ht⟩
        · refine ih (k - n) (by omega) ?_ (fun j hj => h2 j (by omega))
          have := hq (k - n)
          rw [show k - n + n = k from by omega, h1] at this
          exact this.symm
    exact hk k k (Nat.le_refl _) h1 h2
  · rintro ⟨j, _, _, h1, h2⟩
    exact ⟨j, h1, fun t ht => h2 t (by omega) ht⟩

theorem period_all {q : Nat → Bool} {n : Nat} (h0 : 0 < n) (hq : ∀ k, q (k + n) = q k) (h : ∀ j, j < n → q j = true) : ∀ m k, k ≤ m → q k = true := by
  intro m
  induction m with
  | zero => intro k hk; exact h k (by omega)
  | succ m ih =>
    intro k hk
    by_cases hlt : k < n
    · exact h k hlt
    · have := hq (k - n)
      rw [show k - n + n = k from by omega] at this
      rw [this]
      exact ih (k - n) (by omega)

theorem round_release {p q : Nat → Bool} {n : Nat} (h0 : 0 < n) (hp : ∀ k, p (k + n) = p k) (hq : ∀ k, q (k + n) = q k) : ((∀ k, q k = true) ∨ ∃ k, p k = true ∧ ∀ j, j ≤ k → q j = true) ↔ wk p q true n 0 = true := by
  rw [wk_release]
  constructor
  · rintro (h | ⟨k, h1, h2⟩)
    · exact .inl fun j _ _ => h j
    · by_cases hlt : k < n
      · exact .inr ⟨k, by omega, by omega, h1, fun t _ ht => h2 t ht⟩
      · exact .inl fun j _ hj => h2 j (by omega)
  · rintro (h | ⟨k, _, _, h1, h2⟩)
    · exact .inl fun k => period_all h0 hq (fun j hj => h j (by omega) (by omega)) k k (Nat.le_refl _)
    · exact .inr ⟨k, h1, fun j hj => h2 j (by omega) hj⟩

section
variable {G : Gph} (h0 : 0 < G.n) (ring : ∀ i j, i < G.n → (G.e i j = true ↔ j = (i + 1) % G.n))
include h0 ring

omit ring in
theorem ring_until {fs : List Nat} {p q : Nat} (hp : isAtom p = true ∧ ¬ p = 84) (hq : isAtom q = true ∧ ¬ q = 84) (i : Nat) : says 85 (sat G fs (tP p)) (sat G fs (tP q)) (fun k => (i + k) % G.n) ↔ wk (fun k => G.m ((i + k) % G.n) p) (fun k => G.m ((i + k) % G.n) q) false G.n 0 = true := by
  have ep : ∀ j, sat G fs (tP p) j ↔ G.m j p = true := fun j => by rw [tP, sat_atom_is hp.1]; simp [hp.2]
  have eq : ∀ j, sat G fs (tP q) j ↔ G.m j q = true := fun j => by rw [tP, sat_atom_is hq.1]; simp [hq.2]
  rw [← round_until h0 (fun k => by rw [← Nat.add_assoc, Nat.add_mod_right]) (fun k => by rw [← Nat.add_assoc, Nat.add_mod_right])]
  show (∃ k, sat G fs (tP q) ((i + k) % G.n) ∧ ∀ j, j < k → sat G fs (tP p) ((i + j) % G.n)) ↔ _
  simp only [ep, eq]

omit ring in
theorem ring_release {fs : List Nat} {p q : Nat} (hp : isAtom p = true ∧ ¬ p = 84) (hq : isAtom q = true ∧ ¬ q = 84) (i : Nat) : says 82 (sat G fs (tP p)) (sat G fs (tP q)) (fun k => (i + k) % G.n) ↔ wk (fun k => G.m ((i + k) % G.n) p) (fun k => G.m ((i + k) % G.n) q) true G.n 0 = true := by
  have ep : ∀ j, sat G fs (tP p) j ↔ G.m j p = true := fun j => by rw [tP, sat_atom_is hp.1]; simp [hp.2]
  have eq : ∀ j, sat G fs (tP q) j ↔ G.m j q = true := fun j => by rw [tP, sat_atom_is hq.1]; simp [hq.2]
  rw [← round_release h0 (fun k => by rw [← Nat.add_assoc, Nat.add_mod_right]) (fun k => by rw [← Nat.add_assoc, Nat.add_mod_right])]
  show ((∀ k, sat G fs (tP q) ((i + k) % G.n)) ∨ ∃ k, sat G fs (tP p) ((i + k) % G.n) ∧ ∀ j, j ≤ k → sat G fs (tP q) ((i + j) % G.n)) ↔ _
  simp only [ep, eq]

/-- on a ring: what is said of some way, and of every way -/
theorem ring_e {fs : List Nat} {sg : Nat} {A B : Nat → Prop} {i : Nat} (hi : i < G.n) (hf : ∀ f ∈ fs, ∃ d, d < G.n ∧ G.m d f = true) : (∃ σ, FWay G fs i σ ∧ says sg A B σ) ↔ says sg A B (fun k => (i + k) % G.n) := by
  constructor
  · rintro ⟨σ, h, hs⟩
    have e : σ = fun k => (i + k) % G.n := funext (ring_way h0 ring hi h)
    rw [e] at hs
    exact hs
  · intro hs
    exact ⟨_, ring_is h0 ring hi hf, hs⟩
theorem ring_a {fs : List Nat} {sg : Nat} {A B : Nat → Prop} {i : Nat} (hi : i < G.n) (hf : ∀ f ∈ fs, ∃ d, d < G.n ∧ G.m d f = true) : (∀ σ, FWay G fs i σ → says sg A B σ) ↔ says sg A B (fun k => (i + k) % G.n) := by
  constructor
  · intro h; exact h _ (ring_is h0 ring hi hf)
  · intro hs σ h
    have e : σ = fun k => (i + k) % G.n := funext (ring_way h0 ring hi h)
    rw [e]
    exact hs

end

end Go.Proofs.Ytcfbfdjmcabnkaa

