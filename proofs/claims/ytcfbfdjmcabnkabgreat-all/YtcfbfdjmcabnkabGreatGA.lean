import Derived.Test.YtcfbfdjmcabnkabGreatG1
import Derived.Test.YtcfbfdjmcabnkabGreatGK
import Derived.Test.YtcfbfdjmcabnkabGreatG8
namespace Go.Proofs.YtcfbfdjmcabnkabGreat.Fw
open Go.Deep (BT)
set_option linter.unusedVariables false
def dig (n : Nat) : Nat -> List UInt8 -> List Nat
 | 0, _ => []
 | _ + 1, [] => []
 | k + 1, c :: r => if 48 <= c.toNat ∧ c.toNat < 48 + n then (c.toNat - 48) :: dig n k r else []
theorem dig_le (n : Nat) : ∀ k l, (dig n k l).length <= k ∧ (dig n k l).length <= l.length := by
 intro k
 induction k with
 | zero => intro l; simp [dig]
 | succ k ih =>
   intro l
   cases l with
   | nil => simp [dig]
   | cons c r =>
     unfold dig
     split
     · have := ih r; simp; omega
     · simp
theorem dig_lt (n : Nat) : ∀ k l, ∀ x ∈ dig n k l, x < n := by
 intro k
 induction k with
 | zero => intro l x hx; simp [dig] at hx
 | succ k ih =>
   intro l x hx
   cases l with
   | nil => simp [dig] at hx
   | cons c r =>
     unfold dig at hx
     split at hx
     · rcases List.mem_cons.1 hx with rfl | h
       · omega
       · exact ih r x h
     · simp at hx
def las (n : Nat) (s : ByteArray) (p : Nat) : Option (List Nat × Nat × Nat) :=
 if isAt s p 91 = true ∧ isAt s (p + 1 + (dig n 40 (tl s (p + 1))).length) 40 = true ∧
     isAt s (p + 1 + (dig n 40 (tl s (p + 1))).length + 1 + (dig n (40 - (dig n 40 (tl s (p + 1))).length) (tl s (p + 1 + (dig n 40 (tl s (p + 1))).length + 1))).length) 41 = true ∧
     isAt s (p + 1 + (dig n 40 (tl s (p + 1))).length + 1 + (dig n (40 - (dig n 40 (tl s (p + 1))).length) (tl s (p + 1 + (dig n 40 (tl s (p + 1))).length + 1))).length + 1) 93 = true ∧
     dig n (40 - (dig n 40 (tl s (p + 1))).length) (tl s (p + 1 + (dig n 40 (tl s (p + 1))).length + 1)) ≠ [] then
   some (dig n 40 (tl s (p + 1)) ++ dig n (40 - (dig n 40 (tl s (p + 1))).length) (tl s (p + 1 + (dig n 40 (tl s (p + 1))).length + 1)), (dig n 40 (tl s (p + 1))).length,
     p + 1 + (dig n 40 (tl s (p + 1))).length + 1 + (dig n (40 - (dig n 40 (tl s (p + 1))).length) (tl s (p + 1 + (dig n 40 (tl s (p + 1))).length + 1))).length + 2)
 else none
def nxt (n fr k : Nat) : Nat := if k + 1 = n then fr else k + 1
def stepsL (G : Gph) (ls : List Nat) (fr k : Nat) : Bool := (List.range k).all fun j => G.e (ls.getD j 0) (ls.getD (nxt ls.length fr j) 0)
def metL (G : Gph) (ls : List Nat) (fr f k : Nat) : Bool := (List.range k).any fun j => decide (fr <= j) && G.m (ls.getD j 0) f
def goesL (G : Gph) (fs : List Nat) (ls : List Nat) (fr : Nat) : Bool := stepsL G ls fr ls.length && fs.all fun f => metL G ls fr f ls.length
theorem stepsL_succ (G : Gph) (ls : List Nat) (fr k : Nat) : stepsL G ls fr (k + 1) = (stepsL G ls fr k && G.e (ls.getD k 0) (ls.getD (nxt ls.length fr k) 0)) := by
 simp [stepsL, List.range_succ]
theorem metL_succ (G : Gph) (ls : List Nat) (fr f k : Nat) : metL G ls fr f (k + 1) = (metL G ls fr f k || (decide (fr <= k) && G.m (ls.getD k 0) f)) := by
 simp [metL, List.range_succ]
def lasG (G : Gph) (fs : List Nat) (s : ByteArray) (i p : Nat) : Option (List Nat × Nat × Nat) :=
 match las G.n s p with
 | none => none
 | some x => if x.1.getD 0 0 = i ∧ goesL G fs x.1 x.2.1 = true then some x else none
def plc (f : Nat -> Nat -> Option Nat) (s : ByteArray) : List Nat -> Nat -> Option (Nat × Nat)
 | [], p => some (0, p)
 | x :: r, p =>
   if isAt s p 44 = true then
     match f x (p + 1) with
     | none => none
     | some q =>
       match plc f s r q with
       | none => none
       | some y => some (y.1 + 1, y.2)
   else some (0, p)
def soB (G : Gph) : Fm -> Nat -> Bool
 | .nil, _ => false
 | .node sg _ _ l _, i => if sg = 33 then !(soB G l i) else decide (sg = 84) || G.m i sg
def rep (G : Gph) (fs : List Nat) (s : ByteArray) : Fm -> Nat -> Nat -> Option Nat
 | .nil, _, _ => none
 | .node sg wy u l r, i, p =>
   if sg = 38 then
     if isAt s p 38 = true then
       match rep G fs s l i (p + 1) with
       | none => none
       | some q => rep G fs s r i q
     else none
   else if sg = 43 then
     if isAt s p 60 = true then rep G fs s l i (p + 1)
     else if isAt s p 62 = true then rep G fs s r i (p + 1)
     else none
   else if sg = 88 then
     match lasG G fs s i p with
     | none => none
     | some x => rep G fs s l (x.1.getD (nxt x.1.length x.2.1 0) 0) x.2.2
   else if sg = 85 then
     match lasG G fs s i p with
     | none => none
     | some x =>
       match plc (rep G fs s l) s x.1 x.2.2 with
       | none => none
       | some y => if y.1 < x.1.length ∧ isAt s y.2 45 = true then rep G fs s r (x.1.getD y.1 0) (y.2 + 1) else none
   else if sg = 82 then
     match lasG G fs s i p with
     | none => none
     | some x =>
       match plc (rep G fs s r) s x.1 x.2.2 with
       | none => none
       | some y =>
         if y.1 = 0 then none
         else if isAt s y.2 111 = true then (if y.1 = x.1.length then some (y.2 + 1) else none)
         else if isAt s y.2 45 = true then rep G fs s l (x.1.getD (y.1 - 1) 0) (y.2 + 1)
         else none
   else if isAt s p 46 = true ∧ soB G (.node sg wy u l r) i = true then some (p + 1) else none
theorem las_some {n : Nat} {s : ByteArray} {p : Nat} {x : List Nat × Nat × Nat} (h : las n s p = some x) :
   x.2.1 < x.1.length ∧ x.1.length <= 40 ∧ (∀ y ∈ x.1, y < n) ∧ p < x.2.2 ∧ x.2.2 <= s.size := by
 unfold las at h
 split at h
 · rename_i hc
   injection h with h
   subst h
   obtain ⟨_, _, _, h4, h5⟩ := hc
   have h6 := isAt_lt h4
   have q1 := dig_le n 40 (tl s (p + 1))
   have q2 := dig_le n (40 - (dig n 40 (tl s (p + 1))).length) (tl s (p + 1 + (dig n 40 (tl s (p + 1))).length + 1))
   have q3 := List.length_pos_iff.2 h5
   refine ⟨?_, ?_, ?_, ?_, ?_⟩
   · simp only [List.length_append]; omega
   · simp only [List.length_append]; omega
   · intro y hy
     rcases List.mem_append.1 hy with hy | hy
     · exact dig_lt n _ _ y hy
     · exact dig_lt n _ _ y hy
   · show p < _ ; dsimp only; omega
   · show _ <= s.size; dsimp only; omega
 · cases h
theorem lasG_some {G : Gph} {fs : List Nat} {s : ByteArray} {i p : Nat} {x : List Nat × Nat × Nat} (h : lasG G fs s i p = some x) :
   las G.n s p = some x ∧ x.1.getD 0 0 = i ∧ goesL G fs x.1 x.2.1 = true := by
 unfold lasG at h
 split at h
 · cases h
 · rename_i y hy
   split at h
   · rename_i hc
     injection h with h
     subst h
     exact ⟨hy, hc.1, hc.2⟩
   · cases h
theorem plc_some {f : Nat -> Nat -> Option Nat} {s : ByteArray} (hf : ∀ x p q, p <= s.size -> f x p = some q -> p < q ∧ q <= s.size) : ∀ (ls : List Nat) (p : Nat) (y : Nat × Nat), p <= s.size -> plc f s ls p = some y -> y.1 <= ls.length ∧ p <= y.2 ∧ y.2 <= s.size := by
 intro ls
 induction ls with
 | nil => intro p y hp h; unfold plc at h; injection h with h; subst h; exact ⟨Nat.le_refl _, Nat.le_refl _, hp⟩
 | cons x r ih =>
   intro p y hp h
   unfold plc at h
   split at h
   · rename_i hc
     split at h
     · cases h
     · rename_i q hq
       split at h
       · cases h
       · rename_i z hz
         injection h with h
         subst h
         have h1 := hf x (p + 1) q (isAt_lt hc) hq
         have h2 := ih q z h1.2 hz
         exact ⟨by simp; omega, by show p <= z.2; omega, h2.2.2⟩
   · injection h with h
     subst h
     exact ⟨Nat.zero_le _, Nat.le_refl _, hp⟩
theorem rep_some {G : Gph} {fs : List Nat} {s : ByteArray} : ∀ (t : Fm) (i p q : Nat), p <= s.size -> rep G fs s t i p = some q -> p < q ∧ q <= s.size := by
 intro t
 induction t with
 | nil => intro i p q hp h; simp [rep] at h
 | node sg wy u l r ihl ihr =>
   intro i p q hp h
   unfold rep at h
   split at h
   · split at h
     · rename_i hc
       have h0 := isAt_lt hc
       split at h
       · cases h
       · rename_i m hm
         have h1 := ihl i (p + 1) m h0 hm
         have h2 := ihr i m q h1.2 h
         omega
     · cases h
   · split at h
     · split at h
       · rename_i hc
         have h0 := isAt_lt hc
         have h1 := ihl i (p + 1) q h0 h
         omega
       · split at h
         · rename_i hc
           have h0 := isAt_lt hc
           have h1 := ihr i (p + 1) q h0 h
           omega
         · cases h
     · split at h
       · split at h
         · cases h
         · rename_i x hx
           have h1 := las_some (lasG_some hx).1
           have h2 := ihl _ _ q h1.2.2.2.2 h
           omega
       · split at h
         · split at h
           · cases h
           · rename_i x hx
             have h1 := las_some (lasG_some hx).1
             split at h
             · cases h
             · rename_i y hy
               have h2 := plc_some (fun a b c hb => ihl a b c hb) x.1 x.2.2 y h1.2.2.2.2 hy
               split at h
               · rename_i hc
                 have h0 := isAt_lt hc.2
                 have h3 := ihr _ (y.2 + 1) q h0 h
                 omega
               · cases h
         · split at h
           · split at h
             · cases h
             · rename_i x hx
               have h1 := las_some (lasG_some hx).1
               split at h
               · cases h
               · rename_i y hy
                 have h2 := plc_some (fun a b c hb => ihr a b c hb) x.1 x.2.2 y h1.2.2.2.2 hy
                 split at h
                 · cases h
                 · split at h
                   · rename_i hc
                     have h0 := isAt_lt hc
                     split at h
                     · injection h with h; omega
                     · cases h
                   · split at h
                     · rename_i hc
                       have h0 := isAt_lt hc
                       have h3 := ihl _ (y.2 + 1) q h0 h
                       omega
                     · cases h
           · split at h
             · rename_i hc
               have h0 := isAt_lt hc.1
               injection h with h
               omega
             · cases h
end Go.Proofs.YtcfbfdjmcabnkabGreat.Fw
namespace Go.Proofs.YtcfbfdjmcabnkabGreat
open Fw
open Go.Deep (BT)
set_option linter.unusedVariables false
variable {G : Gph} {fs : List Nat}
theorem sat_not {l : Fm} {wy i : Nat} : sat G fs (.node 33 wy () l .nil) i ↔ ¬ sat G fs l i := by rw [sat, if_pos rfl]
theorem sat_and {l r : Fm} {wy i : Nat} : sat G fs (.node 38 wy () l r) i ↔ sat G fs l i ∧ sat G fs r i := by
 rw [sat, if_neg (by omega), if_pos rfl]
theorem sat_or {l r : Fm} {wy i : Nat} : sat G fs (.node 43 wy () l r) i ↔ sat G fs l i ∨ sat G fs r i := by
 rw [sat, if_neg (by omega), if_neg (by omega), if_pos rfl]
theorem says_x {A B A' B' : Nat -> Prop} {σ : Nat -> Nat} (h : A (σ 1) ↔ A' (σ 1)) : says 88 A B σ ↔ says 88 A' B' σ := by simp [says, h]
theorem pushT_sat : ∀ (t : Fm), good t -> ∀ i, (sat G fs (pushT t false) i ↔ sat G fs t i) ∧ (sat G fs (pushT t true) i ↔ ¬ sat G fs t i) := by
 intro t
 induction t with
 | nil => intro h; exact absurd h (by simp [good])
 | node sg wy u l r ihl ihr =>
   intro h i
   rcases good_cases h with ⟨c, e, hc, ht⟩ | ⟨x, e, hx, ht⟩ | ⟨s, x, y, e, hs, hx, hy, ht⟩ | ⟨v, x, e, hv, hx, ht⟩ | ⟨s, v, x, y, e, hs, hv, hx, hy, ht⟩
   · rw [e, pushT_atom hc, pushT_atom hc, if_neg (by simp), if_pos rfl, sat_not]
     exact ⟨Iff.rfl, Iff.rfl⟩
   · injection e with e3 e0 _ e1 e2
     subst e3 e0 e1 e2
     rw [pushT_not, pushT_not, sat_not]
     obtain ⟨a, b⟩ := ihl hx i
     exact ⟨b, by rw [Bool.not_true, a]; exact Iff.symm Classical.not_not⟩
   · injection e with e3 e0 _ e1 e2
     subst e3 e0 e1 e2
     rw [pushT_bin hs, pushT_bin hs]
     obtain ⟨a, b⟩ := ihl hx i
     obtain ⟨a', b'⟩ := ihr hy i
     rcases hs with rfl | rfl
     · refine ⟨by rw [show tn false 38 = 38 from rfl, sat_and, sat_and, a, a'], ?_⟩
       rw [show tn true 38 = 43 from rfl, sat_or, sat_and, b, b']
       exact (Classical.not_and_iff_not_or_not).symm
     · refine ⟨by rw [show tn false 43 = 43 from rfl, sat_or, sat_or, a, a'], ?_⟩
       rw [show tn true 43 = 38 from rfl, sat_or, sat_and, b, b']
       exact not_or.symm
   · injection e with e3 e0 _ e1 e2
     subst e3 e0 e1 e2
     rw [pushT_x, pushT_x, sat_way (.inl rfl), sat_way (.inl rfl), sat_way (.inl rfl)]
     have ha : ∀ σ : Nat -> Nat, says 88 (sat G fs (pushT l false)) (sat G fs .nil) σ ↔ says 88 (sat G fs l) (sat G fs .nil) σ := fun σ => says_x (ihl hx _).1
     have hb : ∀ σ : Nat -> Nat, says 88 (sat G fs (pushT l true)) (sat G fs .nil) σ ↔ ¬ says 88 (sat G fs l) (sat G fs .nil) σ := fun σ => by
       rw [says_x (A' := fun x => ¬ sat G fs l x) (B' := fun x => ¬ sat G fs .nil x) (ihl hx _).2]
       exact says_flip (sg := 88) (.inl rfl)
     rcases hv with rfl | rfl
     · refine ⟨by rw [show tn false 69 = 69 from rfl, if_pos rfl, if_pos rfl]; simp only [ha], ?_⟩
       rw [show tn true 69 = 65 from rfl, if_neg (by omega), if_pos rfl]
       simp only [hb, not_exists, not_and]
     · refine ⟨by rw [show tn false 65 = 65 from rfl, if_neg (by omega), if_neg (by omega)]; simp only [ha], ?_⟩
       rw [show tn true 65 = 69 from rfl, if_pos rfl, if_neg (by omega)]
       simp only [hb, Classical.not_forall, exists_prop]
   · injection e with e3 e0 _ e1 e2
     subst e3 e0 e1 e2
     have hsg : sg = 88 ∨ sg = 85 ∨ sg = 82 := .inr hs
     have hfl : tn true sg = Fw.flip sg := by rcases hs with rfl | rfl <;> rfl
     have hfs : Fw.flip sg = 88 ∨ Fw.flip sg = 85 ∨ Fw.flip sg = 82 := by rcases hs with rfl | rfl <;> simp [Fw.flip]
     rw [pushT_way hs, pushT_way hs, show tn false sg = sg from rfl, hfl, sat_way hsg, sat_way hsg, sat_way hfs]
     have ha : ∀ σ : Nat -> Nat, says sg (sat G fs (pushT l false)) (sat G fs (pushT r false)) σ ↔ says sg (sat G fs l) (sat G fs r) σ := fun σ => says_congr (fun k => (ihl hx _).1) (fun k => (ihr hy _).1)
     have hb : ∀ σ : Nat -> Nat, says (Fw.flip sg) (sat G fs (pushT l true)) (sat G fs (pushT r true)) σ ↔ ¬ says sg (sat G fs l) (sat G fs r) σ := fun σ => by
       rw [says_congr (A' := fun x => ¬ sat G fs l x) (B' := fun x => ¬ sat G fs r x) (fun k => (ihl hx _).2) (fun k => (ihr hy _).2)]
       exact says_flip hsg
     rcases hv with rfl | rfl
     · refine ⟨by rw [show tn false 69 = 69 from rfl, if_pos rfl, if_pos rfl]; simp only [ha], ?_⟩
       rw [show tn true 69 = 65 from rfl, if_neg (by omega), if_pos rfl]
       simp only [hb, not_exists, not_and]
     · refine ⟨by rw [show tn false 65 = 65 from rfl, if_neg (by omega), if_neg (by omega)]; simp only [ha], ?_⟩
       rw [show tn true 65 = 69 from rfl, if_pos rfl, if_neg (by omega)]
       simp only [hb, Classical.not_forall, exists_prop]
variable {G : Gph} {fs : List Nat}
def shw : Fm -> Prop
 | .nil => False
 | .node sg wy _ l r =>
   if sg = 33 then ∃ c, isAtom c = true ∧ l = .node c 0 () .nil .nil
   else if sg = 38 ∨ sg = 43 then shw l ∧ shw r
   else if sg = 88 then wy = 69 ∧ shw l
   else if sg = 85 ∨ sg = 82 then wy = 69 ∧ shw l ∧ shw r
   else isAtom sg = true
theorem push_shw : ∀ (t : Fm), good t -> ∀ neg, (∀ c ∈ push t neg, ¬ c.toNat = 65) -> shw (pushT t neg) := by
 intro t
 induction t with
 | nil => intro h; exact absurd h (by simp [good])
 | node sg wy u l r ihl ihr =>
   intro h neg hA
   rcases good_cases h with ⟨c, e, hc, ht⟩ | ⟨x, e, hx, ht⟩ | ⟨s, x, y, e, hs, hx, hy, ht⟩ | ⟨v, x, e, hv, hx, ht⟩ | ⟨s, v, x, y, e, hs, hv, hx, hy, ht⟩
   · rw [e, pushT_atom hc]
     have hc' := hc
     simp only [isAtom, decide_eq_true_eq] at hc'
     cases neg with
     | true =>
       rw [if_pos rfl, shw, if_pos rfl]
       exact ⟨c, hc, rfl⟩
     | false =>
       rw [if_neg (by simp), shw, if_neg (by omega), if_neg (by omega), if_neg (by omega), if_neg (by omega)]
       exact hc
   · injection e with e3 e0 _ e1 e2
     subst e3 e0 e1 e2
     rw [push_not] at hA
     rw [pushT_not]
     exact ihl hx _ hA
   · injection e with e3 e0 _ e1 e2
     subst e3 e0 e1 e2
     rw [push_bin hs] at hA
     rw [pushT_bin hs]
     have := tn_bin hs neg
     rw [shw, if_neg (by omega), if_pos this]
     exact ⟨ihl hx _ fun c hc => hA c (by simp [hc]), ihr hy _ fun c hc => hA c (by simp [hc])⟩
   · injection e with e3 e0 _ e1 e2
     subst e3 e0 e1 e2
     rw [push_x] at hA
     rw [pushT_x]
     have h1 := tn_wy hv neg
     have h2 := hA (b8 (tn neg wy)) (by simp)
     rw [b8_nat (by omega)] at h2
     rw [shw, if_neg (by omega), if_neg (by omega), if_pos rfl]
     exact ⟨by omega, ihl hx _ fun c hc => hA c (by simp [hc])⟩
   · injection e with e3 e0 _ e1 e2
     subst e3 e0 e1 e2
     rw [push_way hs] at hA
     rw [pushT_way hs]
     have h0 := tn_ur hs neg
     have h1 := tn_wy hv neg
     have h2 := hA (b8 (tn neg wy)) (by simp)
     rw [b8_nat (by omega)] at h2
     rw [shw, if_neg (by omega), if_neg (by omega), if_neg (by omega), if_pos h0]
     exact ⟨by omega, ihl hx _ fun c hc => hA c (by simp [hc]), ihr hy _ fun c hc => hA c (by simp [hc])⟩
def pos (n fr : Nat) : Nat -> Nat
 | 0 => 0
 | k + 1 => nxt n fr (pos n fr k)
theorem nxt_lt {n fr k : Nat} (hf : fr < n) (hk : k < n) : nxt n fr k < n := by unfold nxt; split <;> omega
section
variable {G : Gph} {fs : List Nat} {s : ByteArray} {wy st p : Nat} {u : Unit} {l r : Fm}
theorem rep_and0 (h : isAt s p 38 = false) : rep G fs s (.node 38 wy u l r) st p = none := by rw [rep, if_pos rfl, if_neg (by rw [h]; simp)]
theorem rep_and1 (h : isAt s p 38 = true) (h1 : rep G fs s l st (p + 1) = none) : rep G fs s (.node 38 wy u l r) st p = none := by rw [rep, if_pos rfl, if_pos h, h1]
theorem rep_and2 {q : Nat} (h : isAt s p 38 = true) (h1 : rep G fs s l st (p + 1) = some q) : rep G fs s (.node 38 wy u l r) st p = rep G fs s r st q := by rw [rep, if_pos rfl, if_pos h, h1]
theorem rep_or1 (h : isAt s p 60 = true) : rep G fs s (.node 43 wy u l r) st p = rep G fs s l st (p + 1) := by rw [rep, if_neg (by omega), if_pos rfl, if_pos h]
theorem rep_or2 (h : isAt s p 60 = false) (h2 : isAt s p 62 = true) : rep G fs s (.node 43 wy u l r) st p = rep G fs s r st (p + 1) := by rw [rep, if_neg (by omega), if_pos rfl, if_neg (by rw [h]; simp), if_pos h2]
theorem rep_or0 (h : isAt s p 60 = false) (h2 : isAt s p 62 = false) : rep G fs s (.node 43 wy u l r) st p = none := by rw [rep, if_neg (by omega), if_pos rfl, if_neg (by rw [h]; simp), if_neg (by rw [h2]; simp)]
theorem rep_x0 (h : lasG G fs s st p = none) : rep G fs s (.node 88 wy u l r) st p = none := by rw [rep, if_neg (by omega), if_neg (by omega), if_pos rfl, h]
theorem rep_x1 {x : List Nat × Nat × Nat} (h : lasG G fs s st p = some x) : rep G fs s (.node 88 wy u l r) st p = rep G fs s l (x.1.getD (nxt x.1.length x.2.1 0) 0) x.2.2 := by rw [rep, if_neg (by omega), if_neg (by omega), if_pos rfl, h]
theorem rep_u0 (h : lasG G fs s st p = none) : rep G fs s (.node 85 wy u l r) st p = none := by rw [rep, if_neg (by omega), if_neg (by omega), if_neg (by omega), if_pos rfl, h]
theorem rep_u1 {x : List Nat × Nat × Nat} (h : lasG G fs s st p = some x) (h2 : plc (rep G fs s l) s x.1 x.2.2 = none) : rep G fs s (.node 85 wy u l r) st p = none := by rw [rep, if_neg (by omega), if_neg (by omega), if_neg (by omega), if_pos rfl, h]; simp only [h2]
theorem rep_u2 {x : List Nat × Nat × Nat} {y : Nat × Nat} (h : lasG G fs s st p = some x) (h2 : plc (rep G fs s l) s x.1 x.2.2 = some y) (h3 : ¬ (y.1 < x.1.length ∧ isAt s y.2 45 = true)) : rep G fs s (.node 85 wy u l r) st p = none := by
 rw [rep, if_neg (by omega), if_neg (by omega), if_neg (by omega), if_pos rfl, h]; simp only [h2]; exact if_neg h3
theorem rep_u3 {x : List Nat × Nat × Nat} {y : Nat × Nat} (h : lasG G fs s st p = some x) (h2 : plc (rep G fs s l) s x.1 x.2.2 = some y) (h3 : y.1 < x.1.length ∧ isAt s y.2 45 = true) : rep G fs s (.node 85 wy u l r) st p = rep G fs s r (x.1.getD y.1 0) (y.2 + 1) := by
 rw [rep, if_neg (by omega), if_neg (by omega), if_neg (by omega), if_pos rfl, h]; simp only [h2]; exact if_pos h3
theorem rep_r0 (h : lasG G fs s st p = none) : rep G fs s (.node 82 wy u l r) st p = none := by rw [rep, if_neg (by omega), if_neg (by omega), if_neg (by omega), if_neg (by omega), if_pos rfl, h]
theorem rep_r1 {x : List Nat × Nat × Nat} (h : lasG G fs s st p = some x) (h2 : plc (rep G fs s r) s x.1 x.2.2 = none) : rep G fs s (.node 82 wy u l r) st p = none := by rw [rep, if_neg (by omega), if_neg (by omega), if_neg (by omega), if_neg (by omega), if_pos rfl, h]; simp only [h2]
theorem rep_r2 {x : List Nat × Nat × Nat} {y : Nat × Nat} (h : lasG G fs s st p = some x) (h2 : plc (rep G fs s r) s x.1 x.2.2 = some y) (h3 : y.1 = 0) : rep G fs s (.node 82 wy u l r) st p = none := by
 rw [rep, if_neg (by omega), if_neg (by omega), if_neg (by omega), if_neg (by omega), if_pos rfl, h]; simp only [h2]; exact if_pos h3
theorem rep_r3 {x : List Nat × Nat × Nat} {y : Nat × Nat} (h : lasG G fs s st p = some x) (h2 : plc (rep G fs s r) s x.1 x.2.2 = some y) (h3 : ¬ y.1 = 0) (h4 : isAt s y.2 111 = true) (h5 : y.1 = x.1.length) : rep G fs s (.node 82 wy u l r) st p = some (y.2 + 1) := by
 rw [rep, if_neg (by omega), if_neg (by omega), if_neg (by omega), if_neg (by omega), if_pos rfl, h]; simp only [h2]; rw [if_neg h3, if_pos h4, if_pos h5]
theorem rep_r4 {x : List Nat × Nat × Nat} {y : Nat × Nat} (h : lasG G fs s st p = some x) (h2 : plc (rep G fs s r) s x.1 x.2.2 = some y) (h3 : ¬ y.1 = 0) (h4 : isAt s y.2 111 = true) (h5 : ¬ y.1 = x.1.length) : rep G fs s (.node 82 wy u l r) st p = none := by
 rw [rep, if_neg (by omega), if_neg (by omega), if_neg (by omega), if_neg (by omega), if_pos rfl, h]; simp only [h2]; rw [if_neg h3, if_pos h4, if_neg h5]
theorem rep_r5 {x : List Nat × Nat × Nat} {y : Nat × Nat} (h : lasG G fs s st p = some x) (h2 : plc (rep G fs s r) s x.1 x.2.2 = some y) (h3 : ¬ y.1 = 0) (h4 : isAt s y.2 111 = false) (h5 : isAt s y.2 45 = true) : rep G fs s (.node 82 wy u l r) st p = rep G fs s l (x.1.getD (y.1 - 1) 0) (y.2 + 1) := by
 rw [rep, if_neg (by omega), if_neg (by omega), if_neg (by omega), if_neg (by omega), if_pos rfl, h]; simp only [h2]; rw [if_neg h3, if_neg (by rw [h4]; simp), if_pos h5]
theorem rep_r6 {x : List Nat × Nat × Nat} {y : Nat × Nat} (h : lasG G fs s st p = some x) (h2 : plc (rep G fs s r) s x.1 x.2.2 = some y) (h3 : ¬ y.1 = 0) (h4 : isAt s y.2 111 = false) (h5 : isAt s y.2 45 = false) : rep G fs s (.node 82 wy u l r) st p = none := by
 rw [rep, if_neg (by omega), if_neg (by omega), if_neg (by omega), if_neg (by omega), if_pos rfl, h]; simp only [h2]; rw [if_neg h3, if_neg (by rw [h4]; simp), if_neg (by rw [h5]; simp)]
theorem rep_leaf {sg : Nat} (h : sg ≠ 38 ∧ sg ≠ 43 ∧ sg ≠ 88 ∧ sg ≠ 85 ∧ sg ≠ 82) : rep G fs s (.node sg wy u l r) st p = if isAt s p 46 = true ∧ soB G (.node sg wy u l r) st = true then some (p + 1) else none := by
 rw [rep, if_neg h.1, if_neg h.2.1, if_neg h.2.2.1, if_neg h.2.2.2.1, if_neg h.2.2.2.2]
end
def addK (k : Nat) : Option (Nat × Nat) -> Option (Nat × Nat)
 | none => none
 | some y => some (y.1 + k, y.2)
def PlcInv (F : Nat -> Nat -> Option Nat) (s : ByteArray) (ls : List Nat) (p k q : Nat) : Prop := plc F s ls p = addK k (plc F s (ls.drop k) q)
theorem PlcInv.start (F : Nat -> Nat -> Option Nat) (s : ByteArray) (ls : List Nat) (p : Nat) : PlcInv F s ls p 0 p := by
 unfold PlcInv
 rw [List.drop_zero]
 cases plc F s ls p <;> rfl
theorem drop_at {ls : List Nat} {k : Nat} (h : k < ls.length) : ls.drop k = ls.getD k 0 :: ls.drop (k + 1) := by
 rw [List.drop_eq_getElem_cons h]
 simp [List.getD, h]
theorem PlcInv.full {F : Nat -> Nat -> Option Nat} {s : ByteArray} {ls : List Nat} {p q : Nat} (h : PlcInv F s ls p ls.length q) : plc F s ls p = some (ls.length, q) := by
 unfold PlcInv at h
 rw [h, List.drop_length]
 simp [plc, addK]
theorem PlcInv.stop {F : Nat -> Nat -> Option Nat} {s : ByteArray} {ls : List Nat} {p k q : Nat} (h : PlcInv F s ls p k q) (hk : k < ls.length) (ha : isAt s q 44 = false) : plc F s ls p = some (k, q) := by
 unfold PlcInv at h
 rw [h, drop_at hk, plc, if_neg (by rw [ha]; simp)]
 simp [addK]
theorem PlcInv.bad {F : Nat -> Nat -> Option Nat} {s : ByteArray} {ls : List Nat} {p k q : Nat} (h : PlcInv F s ls p k q) (hk : k < ls.length) (ha : isAt s q 44 = true) (hf : F (ls.getD k 0) (q + 1) = none) : plc F s ls p = none := by
 unfold PlcInv at h
 rw [h, drop_at hk, plc, if_pos ha, hf]
 rfl
theorem PlcInv.step {F : Nat -> Nat -> Option Nat} {s : ByteArray} {ls : List Nat} {p k q m : Nat} (h : PlcInv F s ls p k q) (hk : k < ls.length) (ha : isAt s q 44 = true) (hf : F (ls.getD k 0) (q + 1) = some m) : PlcInv F s ls p (k + 1) m := by
 unfold PlcInv at h ⊢
 rw [h, drop_at hk, plc, if_pos ha, hf]
 simp only
 cases plc F s (ls.drop (k + 1)) m with
 | none => rfl
 | some y => simp [addK]; omega
end Go.Proofs.YtcfbfdjmcabnkabGreat
namespace Go.Proofs.YtcfbfdjmcabnkabGreat
open Fw
set_option linter.unusedVariables false
theorem isAt_iff {s : ByteArray} {p c : Nat} : isAt s p c = true ↔ p < s.size ∧ byteAt s p = c := by
 constructor
 · intro h
   have h1 := isAt_lt h
   refine ⟨h1, ?_⟩
   simp only [isAt, decide_eq_true_eq] at h
   obtain ⟨h2, h3⟩ := h
   unfold byteAt
   rw [dif_pos h1]
   exact h3
 · rintro ⟨h1, h2⟩
   unfold byteAt at h2
   rw [dif_pos h1] at h2
   exact isAt_yes h1 h2
theorem byteR {s : ByteArray} {k : Nat} (h : k < s.size) : byteAt s k = s[k].toNat := by unfold byteAt; rw [dif_pos h]
theorem dig_cons {n k : Nat} {s : ByteArray} {q : Nat} (h : q < s.size) : dig n (k + 1) (tl s q) = if 48 <= byteAt s q ∧ byteAt s q < 48 + n then (byteAt s q - 48) :: dig n k (tl s (q + 1)) else [] := by
 rw [tl_cons s q h, dig, byteR h]
theorem dig_spec {n : Nat} {s : ByteArray} : ∀ (room q j : Nat), j < (dig n room (tl s q)).length -> q + j < s.size ∧ byteAt s (q + j) = 48 + (dig n room (tl s q)).getD j 0 ∧ (dig n room (tl s q)).getD j 0 < n := by
 intro room
 induction room with
 | zero => intro q j h; simp [dig] at h
 | succ room ih =>
   intro q j h
   by_cases hq : q < s.size
   · rw [dig_cons hq] at h ⊢
     split at h
     · rename_i hc
       rw [if_pos hc]
       cases j with
       | zero => simp only [Nat.add_zero, List.getD_cons_zero]; omega
       | succ j =>
         have := ih (q + 1) j (by simpa using h)
         rw [List.getD_cons_succ, show q + (j + 1) = q + 1 + j from by omega]
         exact this
     · simp at h
   · rw [tl_nil s q (by omega)] at h
     simp [dig] at h
theorem range_map_succ {f : Nat -> Nat} (k : Nat) : (List.range (k + 1)).map f = f 0 :: (List.range k).map fun j => f (j + 1) := by
 rw [List.range_succ_eq_map]
 simp
theorem dig_is {n : Nat} {s : ByteArray} : ∀ (k room q : Nat), k <= room -> (∀ j, j < k -> q + j < s.size ∧ 48 <= byteAt s (q + j) ∧ byteAt s (q + j) < 48 + n) -> q + k < s.size -> ¬ (48 <= byteAt s (q + k) ∧ byteAt s (q + k) < 48 + n) ->
   dig n room (tl s q) = (List.range k).map fun j => byteAt s (q + j) - 48 := by
 intro k
 induction k with
 | zero =>
   intro room q _ _ h1 h2
   cases room with
   | zero => simp [dig]
   | succ room => rw [dig_cons (by omega), if_neg (by simpa using h2)]; rfl
 | succ k ih =>
   intro room q hk h h1 h2
   obtain ⟨room, rfl⟩ : ∃ m, room = m + 1 := ⟨room - 1, by omega⟩
   have h0 := h 0 (by omega)
   rw [dig_cons (by omega), if_pos (by simpa using h0.2), range_map_succ]
   rw [ih room (q + 1) (by omega) (fun j hj => by have := h (j + 1) (by omega); rw [show q + 1 + j = q + (j + 1) from by omega]; exact this) (by omega) (by rw [show q + 1 + k = q + (k + 1) from by omega]; exact h2)]
   simp only [Nat.add_zero, List.cons.injEq, true_and]
   apply List.map_congr_left
   intro j _
   rw [show q + 1 + j = q + (j + 1) from by omega]
theorem findc_at {s : ByteArray} {c : Nat} : ∀ (k p : Nat), (∀ j, j < k -> ¬ byteAt s (p + j) = c) -> p + k < s.size -> byteAt s (p + k) = c -> findc c (tl s p) = k := by
 intro k
 induction k with
 | zero =>
   intro p _ h1 h2
   rw [Nat.add_zero] at h1 h2
   rw [byteR h1] at h2
   exact findc_yes h1 h2
 | succ k ih =>
   intro p h h1 h2
   have h0 := h 0 (by omega)
   rw [Nat.add_zero, byteR (by omega)] at h0
   rw [findc_no (by omega) h0, ih (p + 1) (fun j hj => by have := h (j + 1) (by omega); rw [show p + 1 + j = p + (j + 1) from by omega]; exact this) (by omega) (by rw [show p + 1 + k = p + (k + 1) from by omega]; exact h2)]
theorem findc_spec {s : ByteArray} {c : Nat} : ∀ (k p : Nat), findc c (tl s p) = k -> (∀ j, j < k -> ¬ byteAt s (p + j) = c) ∧ (p + k < s.size -> byteAt s (p + k) = c) := by
 intro k
 induction k with
 | zero =>
   intro p h
   refine ⟨fun j hj => by omega, fun h1 => ?_⟩
   rw [Nat.add_zero] at h1 ⊢
   by_cases hc : byteAt s p = c
   · exact hc
   · rw [byteR h1] at hc
     rw [findc_no h1 hc] at h
     omega
 | succ k ih =>
   intro p h
   have hp : p < s.size := by
     by_cases hp : p < s.size
     · exact hp
     · rw [findc_end (by omega)] at h
       omega
   have hc : ¬ s[p].toNat = c := by
     intro hc
     rw [findc_yes hp hc] at h
     omega
   rw [findc_no hp hc] at h
   obtain ⟨h1, h2⟩ := ih (p + 1) (by omega)
   refine ⟨fun j hj => ?_, fun h3 => ?_⟩
   · cases j with
     | zero => rw [Nat.add_zero, byteR hp]; exact hc
     | succ j => rw [show p + (j + 1) = p + 1 + j from by omega]; exact h1 j (by omega)
   · rw [show p + (k + 1) = p + 1 + k from by omega] at h3 ⊢
     exact h2 h3
def col (s : ByteArray) (o a : Nat) : Nat -> List Nat
 | 0 => []
 | k + 1 => col s o a k ++ (if a + k = o then [] else [byteAt s (a + k) - 48])
theorem col_before {s : ByteArray} {o a : Nat} : ∀ k, a + k <= o -> col s o a k = (List.range k).map fun j => byteAt s (a + j) - 48 := by
 intro k
 induction k with
 | zero => intro _; rfl
 | succ k ih => intro h; rw [col, ih (by omega), if_neg (by omega), List.range_succ]; simp
theorem col_split {s : ByteArray} {o a k1 : Nat} (ho : o = a + k1) : ∀ k2, col s o a (k1 + 1 + k2) = ((List.range k1).map fun j => byteAt s (a + j) - 48) ++ (List.range k2).map fun j => byteAt s (a + k1 + 1 + j) - 48 := by
 intro k2
 induction k2 with
 | zero => show col s o a (k1 + 1) = _; rw [col, if_pos (by omega), col_before k1 (by omega)]; simp
 | succ k2 ih =>
   show col s o a (k1 + 1 + k2 + 1) = _
   rw [col, if_neg (by omega), ih, List.range_succ, List.map_append, <- List.append_assoc, show a + (k1 + 1 + k2) = a + k1 + 1 + k2 from by omega]
   rfl
def opn (s : ByteArray) (p : Nat) : Nat := p + findc 40 (tl s p)
def sht (s : ByteArray) (p : Nat) : Nat := p + findc 41 (tl s p)
def LasR (s : ByteArray) (p : Nat) : Prop :=
 isAt s p 91 = true ∧ isAt s (sht s p + 1) 93 = true ∧ opn s p <= sht s p ∧ sht s p <= p + 42 ∧ opn s p + 2 <= sht s p ∧ ∀ i, p < i -> i < sht s p -> i ≠ opn s p -> 48 <= byteAt s i ∧ byteAt s i <= 57
theorem list_range {l : List Nat} {f : Nat -> Nat} (h : ∀ j, j < l.length -> l.getD j 0 = f j) : l = (List.range l.length).map f := by
 apply List.ext_getElem (by simp)
 intro i h1 h2
 have := h i h1
 simp [List.getD, h1] at this
 simp [this]
theorem las_ref {n : Nat} {s : ByteArray} {p : Nat} {x : List Nat × Nat × Nat} (hn : n <= 9) (h : las n s p = some x) :
   LasR s p ∧ x = (col s (opn s p) (p + 1) (sht s p - p - 1), opn s p - p - 1, sht s p + 2) := by
 unfold las at h
 split at h
 case isFalse => cases h
 rename_i hc
 injection h with h
 generalize hA : dig n 40 (tl s (p + 1)) = A at hc h
 generalize hB : dig n (40 - A.length) (tl s (p + 1 + A.length + 1)) = B at hc h
 obtain ⟨h1, h2, h3, h4, h5⟩ := hc
 have qA := dig_spec (n := n) (s := s) 40 (p + 1)
 rw [hA] at qA
 have qB := dig_spec (n := n) (s := s) (40 - A.length) (p + 1 + A.length + 1)
 rw [hB] at qB
 have lA := dig_le n 40 (tl s (p + 1))
 rw [hA] at lA
 have lB := dig_le n (40 - A.length) (tl s (p + 1 + A.length + 1))
 rw [hB] at lB
 have pB := List.length_pos_iff.2 h5
 rw [isAt_iff] at h1 h2 h3 h4
 -- each byte between
 have hbyte : ∀ j, j < 1 + A.length + 1 + B.length -> (j = 0 ∧ byteAt s (p + j) = 91) ∨ (j = 1 + A.length ∧ byteAt s (p + j) = 40) ∨ (0 < j ∧ j ≠ 1 + A.length ∧ 48 <= byteAt s (p + j) ∧ byteAt s (p + j) <= 57) := by
   intro j hj
   by_cases e0 : j = 0
   · subst e0; exact .inl ⟨rfl, by simpa using h1.2⟩
   · by_cases e1 : j = 1 + A.length
     · subst e1; exact .inr (.inl ⟨rfl, by rw [show p + (1 + A.length) = p + 1 + A.length from by omega]; exact h2.2⟩)
     · refine .inr (.inr ⟨by omega, e1, ?_⟩)
       by_cases e2 : j < 1 + A.length
       · have := qA (j - 1) (by omega)
         rw [show p + 1 + (j - 1) = p + j from by omega] at this
         omega
       · have := qB (j - (1 + A.length + 1)) (by omega)
         rw [show p + 1 + A.length + 1 + (j - (1 + A.length + 1)) = p + j from by omega] at this
         omega
 have hO : opn s p = p + 1 + A.length := by
   unfold opn
   rw [findc_at (1 + A.length) p (fun j hj => by rcases hbyte j (by omega) with h | h | h <;> omega) (by omega) (by rw [show p + (1 + A.length) = p + 1 + A.length from by omega]; exact h2.2)]
   omega
 have hS : sht s p = p + 1 + A.length + 1 + B.length := by
   unfold sht
   rw [findc_at (1 + A.length + 1 + B.length) p (fun j hj => by rcases hbyte j (by omega) with h | h | h <;> omega) (by omega) (by rw [show p + (1 + A.length + 1 + B.length) = p + 1 + A.length + 1 + B.length from by omega]; exact h3.2)]
   omega
 refine ⟨⟨isAt_iff.2 h1, by rw [hS]; exact isAt_iff.2 h4, by omega, by omega, by omega, ?_⟩, ?_⟩
 · intro i hi1 hi2 hi3
   have := hbyte (i - p) (by omega)
   rw [show p + (i - p) = i from by omega] at this
   omega
 · rw [<- h, hO, hS, show p + 1 + A.length + 1 + B.length - p - 1 = A.length + 1 + B.length from by omega, show p + 1 + A.length - p - 1 = A.length from by omega,
     col_split (o := p + 1 + A.length) rfl, <- list_range (l := A) (fun j hj => by have := qA j hj; omega), <- list_range (l := B) (fun j hj => by have := qB j hj; omega)]
theorem ref_las {n : Nat} {s : ByteArray} {p : Nat} (hn : n <= 9) (hr : LasR s p) (hs : ∀ y ∈ col s (opn s p) (p + 1) (sht s p - p - 1), y < n) :
   las n s p = some (col s (opn s p) (p + 1) (sht s p - p - 1), opn s p - p - 1, sht s p + 2) := by
 obtain ⟨h1, h2, h3, h4, h5, h6⟩ := hr
 obtain ⟨O, hO⟩ : ∃ O, opn s p = O := ⟨_, rfl⟩
 obtain ⟨S, hS⟩ : ∃ S, sht s p = S := ⟨_, rfl⟩
 have fo := findc_spec (s := s) (c := 40) (O - p) p (by unfold opn at hO; omega)
 have fs := findc_spec (s := s) (c := 41) (S - p) p (by unfold sht at hS; omega)
 have hOp : p <= O := by unfold opn at hO; omega
 have hSp : p <= S := by unfold sht at hS; omega
 rw [hO, hS] at h3 h5 hs ⊢
 rw [hS] at h2 h4
 simp only [hO, hS] at h6
 rw [show p + (O - p) = O from by omega] at fo
 rw [show p + (S - p) = S from by omega] at fs
 have h2' := isAt_iff.1 h2
 have h1' := isAt_iff.1 h1
 have hOb := fo.2 (by omega)
 have hSb := fs.2 (by omega)
 have hpO : p < O := by
   by_cases e : p = O
   · subst e; omega
   · omega
 have e1 := col_split (s := s) (o := O) (a := p + 1) (k1 := O - p - 1) (by omega) (S - O - 1)
 rw [show O - p - 1 + 1 + (S - O - 1) = S - p - 1 from by omega] at e1
 rw [e1] at hs
 have dA : dig n 40 (tl s (p + 1)) = (List.range (O - p - 1)).map fun j => byteAt s (p + 1 + j) - 48 := by
   refine dig_is (O - p - 1) 40 (p + 1) (by omega) (fun j hj => ?_) (by omega) ?_
   · have a1 := h6 (p + 1 + j) (by omega) (by omega) (by omega)
     have a2 := hs (byteAt s (p + 1 + j) - 48) (List.mem_append_left _ (List.mem_map.2 ⟨j, List.mem_range.2 hj, rfl⟩))
     omega
   · rw [show p + 1 + (O - p - 1) = O from by omega]; omega
 have lA : (dig n 40 (tl s (p + 1))).length = O - p - 1 := by rw [dA]; simp
 have dB : dig n (40 - (O - p - 1)) (tl s (O + 1)) = (List.range (S - O - 1)).map fun j => byteAt s (O + 1 + j) - 48 := by
   refine dig_is (S - O - 1) _ (O + 1) (by omega) (fun j hj => ?_) (by omega) ?_
   · have a1 := h6 (O + 1 + j) (by omega) (by omega) (by omega)
     have a2 := hs (byteAt s (O + 1 + j) - 48) (List.mem_append_right _ (List.mem_map.2 ⟨j, List.mem_range.2 hj, by rw [show p + 1 + (O - p - 1) + 1 + j = O + 1 + j from by omega]⟩))
     omega
   · rw [show O + 1 + (S - O - 1) = S from by omega]; omega
 have lB : (dig n (40 - (O - p - 1)) (tl s (O + 1))).length = S - O - 1 := by rw [dB]; simp
 unfold las
 rw [lA, show p + 1 + (O - p - 1) = O from by omega, lB, show O + 1 + (S - O - 1) = S from by omega]
 rw [if_pos ⟨h1, isAt_iff.2 ⟨by omega, hOb⟩, isAt_iff.2 ⟨by omega, hSb⟩, h2, by intro e; rw [e] at lB; simp at lB; omega⟩]
 rw [e1, dA, dB]
 simp only [show p + 1 + (O - p - 1) + 1 = O + 1 from by omega]
end Go.Proofs.YtcfbfdjmcabnkabGreat
