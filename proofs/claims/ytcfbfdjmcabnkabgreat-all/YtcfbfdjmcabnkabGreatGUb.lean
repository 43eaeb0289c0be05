import Derived.Test.YtcfbfdjmcabnkabGreatGA
import Derived.Test.YtcfbfdjmcabnkabGreatGQ
import Derived.Test.YtcfbfdjmcabnkabGreatGE
set_option maxRecDepth 100000
set_option maxHeartbeats 1000000
namespace Go.Proofs.YtcfbfdjmcabnkabGreat
open Fw
open Go.Deep (BT)
set_option linter.unusedVariables false
def digT (ls : List Nat) : List UInt8 := ls.map fun x => b8 (48 + x)
def lasT (ls : List Nat) (fr : Nat) : List UInt8 := 91 :: (digT (ls.take fr) ++ 40 :: (digT (ls.drop fr) ++ [41, 93]))
def comT : List (List UInt8) -> List UInt8
 | [] => []
 | c :: r => 44 :: (c ++ comT r)
def LasOk (G : Gph) (fs : List Nat) (i : Nat) (ls : List Nat) (fr : Nat) : Prop :=
 fr < ls.length ∧ ls.length <= 40 ∧ (∀ y ∈ ls, y < G.n) ∧ ls.getD 0 0 = i ∧ goesL G fs ls fr = true
def Crt (G : Gph) (fs : List Nat) : Fm -> Nat -> List UInt8 -> Prop
 | .nil, _, _ => False
 | .node sg wy u l r, i, c =>
   if sg = 38 then ∃ a b, c = 38 :: (a ++ b) ∧ Crt G fs l i a ∧ Crt G fs r i b
   else if sg = 43 then (∃ a, c = 60 :: a ∧ Crt G fs l i a) ∨ (∃ a, c = 62 :: a ∧ Crt G fs r i a)
   else if sg = 88 then ∃ ls fr a, LasOk G fs i ls fr ∧ c = lasT ls fr ++ a ∧ Crt G fs l (ls.getD (nxt ls.length fr 0) 0) a
   else if sg = 85 then ∃ (ls : List Nat) (fr : Nat) (cs : List (List UInt8)) (b : List UInt8), LasOk G fs i ls fr ∧ cs.length < ls.length ∧ c = lasT ls fr ++ (comT cs ++ 45 :: b) ∧ (∀ j (h : j < cs.length), Crt G fs l (ls.getD j 0) cs[j]) ∧ Crt G fs r (ls.getD cs.length 0) b
   else if sg = 82 then ∃ (ls : List Nat) (fr : Nat) (cs : List (List UInt8)), LasOk G fs i ls fr ∧ (∀ j (h : j < cs.length), Crt G fs r (ls.getD j 0) cs[j]) ∧
     ((cs.length = ls.length ∧ c = lasT ls fr ++ (comT cs ++ [111])) ∨ (0 < cs.length ∧ cs.length <= ls.length ∧ ∃ b, c = lasT ls fr ++ (comT cs ++ 45 :: b) ∧ Crt G fs l (ls.getD (cs.length - 1) 0) b))
   else c = [46] ∧ soB G (.node sg wy u l r) i = true
theorem tlU_add {s : ByteArray} {p : Nat} {a b : List UInt8} (h : tl s p = a ++ b) : tl s (p + a.length) = b := by
 unfold tl at h ⊢
 rw [<- List.drop_drop, h, List.drop_left]
theorem tlU_one {s : ByteArray} {p : Nat} {c : UInt8} {b : List UInt8} (h : tl s p = c :: b) : tl s (p + 1) = b := tlU_add (a := [c]) h
theorem isAtU {s : ByteArray} {p : Nat} {c : UInt8} {r : List UInt8} (h : tl s p = c :: r) : isAt s p c.toNat = true := by
 have hp : p < s.size := by
   have := tl_length s p
   rw [h] at this
   simp at this
   omega
 rw [tl_cons s p hp] at h
 injection h with h1 _
 exact isAt_yes hp (by rw [h1])
theorem isAtN {s : ByteArray} {p d : Nat} {c : UInt8} {r : List UInt8} (h : tl s p = c :: r) (hd : c.toNat ≠ d) : isAt s p d = false := by
 have hp : p < s.size := by
   have := tl_length s p
   rw [h] at this
   simp at this
   omega
 rw [tl_cons s p hp] at h
 injection h with h1 _
 exact isAt_no hp (by rw [h1]; exact hd)
theorem digT_len (ls : List Nat) : (digT ls).length = ls.length := by simp [digT]
theorem lasT_len (ls : List Nat) (fr : Nat) : (lasT ls fr).length = ls.length + 4 := by
 simp [lasT, digT_len]
 omega
theorem dig_digT {n : Nat} (hn : n <= 6) {d : UInt8} {r : List UInt8} (hd : ¬ (48 <= d.toNat ∧ d.toNat < 48 + n)) : ∀ (xs : List Nat) (k : Nat), xs.length <= k -> (∀ y ∈ xs, y < n) -> dig n k (digT xs ++ d :: r) = xs := by
 intro xs
 induction xs with
 | nil =>
   intro k _ _
   cases k with
   | zero => simp [dig]
   | succ k => simp only [digT, List.map_nil, List.nil_append, dig]; rw [if_neg hd]
 | cons x xs ih =>
   intro k hk hx
   cases k with
   | zero => simp at hk
   | succ k =>
     have hx0 := hx x (by simp)
     have e : (b8 (48 + x)).toNat = 48 + x := b8_nat (by omega)
     simp only [digT, List.map_cons, List.cons_append, dig]
     rw [if_pos (by rw [e]; omega), e]
     have := ih k (by simpa using hk) (fun y hy => hx y (by simp [hy]))
     unfold digT at this
     rw [this]
     congr 1
     omega
theorem las_lasT {n : Nat} (hn : n ≤ 6) {s : ByteArray} {p fr : Nat} {ls : List Nat} {r : List UInt8} (h1 : fr < ls.length) (h2 : ls.length ≤ 40) (h3 : ∀ y ∈ ls, y < n) (h : tl s p = lasT ls fr ++ r) :
   las n s p = some (ls, fr, p + (lasT ls fr).length) := by
 have e0 : tl s p = 91 :: (digT (ls.take fr) ++ 40 :: (digT (ls.drop fr) ++ 41 :: 93 :: r)) := by rw [h]; simp [lasT]
 have e1 := tlU_one e0
 have lt : (ls.take fr).length = fr := by simp; omega
 have ld : (ls.drop fr).length = ls.length - fr := by simp
 have d1 : dig n 40 (tl s (p + 1)) = ls.take fr := by
   rw [e1]
   exact dig_digT hn (by simp) _ _ (by omega) (fun y hy => h3 y (List.mem_of_mem_take hy))
 have e2 := tlU_add e1
 rw [digT_len, lt] at e2
 have e3 := tlU_one e2
 have d2 : dig n (40 - fr) (tl s (p + 1 + fr + 1)) = ls.drop fr := by
   rw [e3]
   exact dig_digT hn (by simp) _ _ (by omega) (fun y hy => h3 y (List.mem_of_mem_drop hy))
 have e4 := tlU_add e3
 rw [digT_len, ld] at e4
 have e5 := tlU_one e4
 unfold las
 rw [d1, lt, d2, ld]
 rw [if_pos ⟨isAtU e0, isAtU e2, isAtU e4, isAtU e5, by intro e; rw [e] at ld; simp at ld; omega⟩]
 rw [List.take_append_drop, lasT_len]
 congr 3
 omega
theorem lasG_lasT {G : Gph} {fs : List Nat} (hn : G.n ≤ 6) {s : ByteArray} {p i fr : Nat} {ls : List Nat} {r : List UInt8} (hk : LasOk G fs i ls fr) (h : tl s p = lasT ls fr ++ r) :
   lasG G fs s i p = some (ls, fr, p + (lasT ls fr).length) := by
 obtain ⟨h1, h2, h3, h4, h5⟩ := hk
 unfold lasG
 rw [las_lasT hn h1 h2 h3 h]
 simp only
 rw [if_pos ⟨h4, h5⟩]
theorem plc_comT {F : Nat → Nat → Option Nat} {s : ByteArray} {r : List UInt8} : ∀ (cs : List (List UInt8)) (ls : List Nat) (p : Nat), cs.length ≤ ls.length →
   (∀ j (h : j < cs.length) q r', tl s q = cs[j] ++ r' -> F (ls.getD j 0) q = some (q + cs[j].length)) -> tl s p = comT cs ++ r -> (cs.length = ls.length ∨ isAt s (p + (comT cs).length) 44 = false) ->
   plc F s ls p = some (cs.length, p + (comT cs).length) := by
 intro cs
 induction cs with
 | nil =>
   intro ls p _ _ h he
   cases ls with
   | nil => simp [plc, comT]
   | cons x ls =>
     rcases he with he | he
     · simp at he
     · simp only [comT, List.length_nil, Nat.add_zero] at he ⊢
       rw [plc, if_neg (by rw [he]; simp)]
 | cons c cs ih =>
   intro ls p hl hF h he
   cases ls with
   | nil => simp at hl
   | cons x ls =>
     simp only [comT, List.cons_append, List.append_assoc] at h
     have h1 := tlU_one h
     have h2 := tlU_add h1
     have f0 := hF 0 (by simp) (p + 1) (comT cs ++ r) h1
     simp only [List.getD_cons_zero, List.getElem_cons_zero] at f0
     have hlen : (comT (c :: cs)).length = 1 + c.length + (comT cs).length := by simp [comT]; omega
     have := ih ls (p + 1 + c.length) (by simpa using hl) (fun j hj q r' hq => by
       have := hF (j + 1) (by simpa using hj) q r' (by simpa using hq)
       simpa using this) h2 (by
       rcases he with he | he
       · left; simpa using he
       · right; rw [hlen] at he; rw [show p + 1 + c.length + (comT cs).length = p + (1 + c.length + (comT cs).length) from by omega]; exact he)
     rw [plc, if_pos (show isAt s p 44 = true from isAtU h), f0]
     simp only
     rw [this]
     simp only [List.length_cons]
     rw [hlen]
     congr 2
     omega
theorem crt_rep {G : Gph} {fs : List Nat} (hn : G.n <= 6) {s : ByteArray} : ∀ (t : Fm) (i : Nat) (c : List UInt8), Crt G fs t i c -> ∀ (p : Nat) (r : List UInt8), tl s p = c ++ r -> rep G fs s t i p = some (p + c.length) := by
 intro t
 induction t with
 | nil => intro i c h; simp [Crt] at h
 | node sg wy u l r ihl ihr =>
   intro i c h p rs hs
   unfold Crt at h
   split at h
   · rename_i e
     subst e
     obtain ⟨a, b, rfl, ha, hb⟩ := h
     simp only [List.cons_append, List.append_assoc] at hs
     have h1 := tlU_one hs
     rw [rep_and2 (isAtU hs) (ihl i a ha _ _ h1), ihr i b hb _ _ (tlU_add h1)]
     simp; omega
   · split at h
     · rename_i e
       subst e
       rcases h with ⟨a, rfl, ha⟩ | ⟨a, rfl, ha⟩
       · simp only [List.cons_append] at hs
         rw [rep_or1 (isAtU hs), ihl i a ha _ _ (tlU_one hs)]
         simp; omega
       · simp only [List.cons_append] at hs
         rw [rep_or2 (isAtN hs (by decide)) (isAtU hs), ihr i a ha _ _ (tlU_one hs)]
         simp; omega
     · split at h
       · rename_i e
         subst e
         obtain ⟨ls, fr, a, hk, rfl, ha⟩ := h
         rw [List.append_assoc] at hs
         rw [rep_x1 (lasG_lasT hn hk hs)]
         simp only
         rw [ihl _ a ha _ _ (tlU_add hs)]
         simp; omega
       · split at h
         · rename_i e
           subst e
           obtain ⟨ls, fr, cs, b, hk, hc, rfl, hl, hb⟩ := h
           simp only [List.append_assoc, List.cons_append] at hs
           have hx := lasG_lasT hn hk hs
           have h2 := tlU_add hs
           have h3 := tlU_add h2
           have hp := plc_comT (F := rep G fs s l) cs ls _ (by omega) (fun j hj q r' hq => ihl _ _ (hl j hj) q r' hq) h2 (.inr (isAtN h3 (by decide)))
           rw [rep_u3 hx hp ⟨hc, isAtU h3⟩]
           simp only
           rw [ihr _ b hb _ _ (tlU_one h3)]
           simp; omega
         · split at h
           · rename_i e
             subst e
             obtain ⟨ls, fr, cs, hk, hl, h | h⟩ := h
             · obtain ⟨hc, rfl⟩ := h
               simp only [List.append_assoc, List.cons_append, List.nil_append] at hs
               have hx := lasG_lasT hn hk hs
               have h2 := tlU_add hs
               have h3 := tlU_add h2
               have hp := plc_comT (F := rep G fs s r) cs ls _ (by omega) (fun j hj q r' hq => ihr _ _ (hl j hj) q r' hq) h2 (.inl hc)
               have h0 := hk.1
               rw [rep_r3 hx hp (by show ¬ cs.length = 0; omega) (isAtU h3) hc]
               simp; omega
             · obtain ⟨hc, hc2, b, rfl, hb⟩ := h
               simp only [List.append_assoc, List.cons_append] at hs
               have hx := lasG_lasT hn hk hs
               have h2 := tlU_add hs
               have h3 := tlU_add h2
               have hp := plc_comT (F := rep G fs s r) cs ls _ hc2 (fun j hj q r' hq => ihr _ _ (hl j hj) q r' hq) h2 (.inr (isAtN h3 (by decide)))
               rw [rep_r5 hx hp (by show ¬ cs.length = 0; omega) (isAtN h3 (by decide)) (isAtU h3)]
               simp only
               rw [ihl _ b hb _ _ (tlU_one h3)]
               simp; omega
           · rename_i e1 e2 e3 e4 e5
             obtain ⟨rfl, hso⟩ := h
             rw [rep_leaf ⟨e1, e2, e3, e4, e5⟩, if_pos ⟨isAtU hs, hso⟩]
             rfl
def wt : Fm -> Nat
 | .nil => 0
 | .node sg _ _ l r => if sg = 33 then 1 else if sg = 38 ∨ sg = 43 then wt l + wt r + 3 else if sg = 88 then wt l + 2 else if sg = 85 ∨ sg = 82 then wt l + wt r + 4 else 1
theorem comT_len {k : Nat} : ∀ (cs : List (List UInt8)), (∀ j (h : j < cs.length), cs[j].length <= k) -> (comT cs).length <= cs.length * (k + 1) := by
 intro cs
 induction cs with
 | nil => intro _; simp [comT]
 | cons c cs ih =>
   intro h
   have h0 := h 0 (by simp)
   have h1 := ih fun j hj => by have := h (j + 1) (by simpa using hj); simpa using this
   simp only [comT, List.length_cons, List.length_append, List.getElem_cons_zero] at h0 ⊢
   rw [Nat.succ_mul]
   omega
theorem len_E {M a b A B k : Nat} (hM : 1 <= M) (ha : a <= M * A) (hb : b <= M * B) (hk : k <= 40) : 44 + k * (a + 1) + 1 + b <= 42 * M * (A + B + 4) := by
 have h1 : k * (a + 1) <= 40 * (a + 1) := Nat.mul_le_mul_right _ hk
 have e : 42 * M * (A + B + 4) = 42 * (M * A) + 42 * (M * B) + 168 * M := by
   rw [Nat.mul_add, Nat.mul_add, Nat.mul_assoc, Nat.mul_assoc, Nat.mul_comm (42 * M) 4]
   omega
 omega
theorem crt_len {G : Gph} {fs : List Nat} : ∀ (t : Fm) (i : Nat) (c : List UInt8), shw t -> Crt G fs t i c -> c.length <= 42 ^ nst t * wt t := by
 intro t
 induction t with
 | nil => intro i c h; simp [shw] at h
 | node sg wy u l r ihl ihr =>
   intro i c hw h
   have pos : ∀ m, 1 <= 42 ^ m := fun m => Nat.pow_pos (by omega)
   have up : ∀ {a m A n : Nat}, a <= 42 ^ m * A -> m <= n -> a <= 42 ^ n * A := fun h1 h2 => Nat.le_trans h1 (Nat.mul_le_mul_right _ (Nat.pow_le_pow_right (by omega) h2))
   unfold Crt at h
   unfold shw at hw
   rw [nst]
   obtain ⟨m, hm⟩ : ∃ m, m = max (nst l) (nst r) := ⟨_, rfl⟩
   rw [<- hm]
   have hml : nst l <= m := by rw [hm]; exact Nat.le_max_left _ _
   have hmr : nst r <= m := by rw [hm]; exact Nat.le_max_right _ _
   clear hm
   obtain ⟨M, hM⟩ : ∃ M, M = 42 ^ m := ⟨_, rfl⟩
   have hM1 : 1 <= M := by rw [hM]; exact pos m
   have hnm : ∀ {a A : Nat}, a <= M * A -> a <= 42 ^ ((if wy = 0 then 0 else 1) + m) * A := fun h1 => up (by rw [<- hM]; exact h1) (by omega)
   split at h
   · rename_i e
     subst e
     rw [if_neg (by omega), if_pos (by omega)] at hw
     obtain ⟨a, b, rfl, ha, hb⟩ := h
     have h1 := up (ihl i a hw.1 ha) hml
     have h2 := up (ihr i b hw.2 hb) hmr
     rw [<- hM] at h1 h2
     refine hnm ?_
     rw [wt, if_neg (by omega), if_pos (by omega), Nat.mul_add, Nat.mul_add]
     simp only [List.length_cons, List.length_append]
     omega
   · split at h
     · rename_i e
       subst e
       rw [if_neg (by omega), if_pos (by omega)] at hw
       refine hnm ?_
       rw [wt, if_neg (by omega), if_pos (by omega), Nat.mul_add, Nat.mul_add]
       rcases h with ⟨a, rfl, ha⟩ | ⟨a, rfl, ha⟩
       · have h1 := up (ihl i a hw.1 ha) hml
         rw [<- hM] at h1
         simp only [List.length_cons]
         omega
       · have h1 := up (ihr i a hw.2 ha) hmr
         rw [<- hM] at h1
         simp only [List.length_cons]
         omega
     · split at h
       · rename_i e
         subst e
         rw [if_neg (by omega), if_neg (by omega), if_pos rfl] at hw
         obtain ⟨hw0, hwl⟩ := hw
         obtain ⟨ls, fr, a, hk, rfl, ha⟩ := h
         have h1 := up (ihl _ a hwl ha) hml
         rw [<- hM] at h1
         rw [wt, if_neg (by omega), if_neg (by omega), if_pos rfl, if_neg (by omega), Nat.pow_add, <- hM, Nat.pow_one, Nat.mul_add]
         have h40 := hk.2.1
         have e1 : 42 * M * wt l = 42 * (M * wt l) := Nat.mul_assoc _ _ _
         simp only [List.length_append, lasT_len]
         omega
       · split at h
         · rename_i e
           subst e
           rw [if_neg (by omega), if_neg (by omega), if_neg (by omega), if_pos (by omega)] at hw
           obtain ⟨hw0, hwl, hwr⟩ := hw
           obtain ⟨ls, fr, cs, b, hk, hc, rfl, hl, hb⟩ := h
           have h1 := comT_len (k := M * wt l) cs fun j hj => by have := up (ihl _ _ hwl (hl j hj)) hml; rw [<- hM] at this; exact this
           have h2 := up (ihr _ b hwr hb) hmr
           rw [<- hM] at h2
           have h40 := hk.2.1
           have h3 := len_E hM1 (Nat.le_refl (M * wt l)) h2 (show cs.length <= 40 by omega)
           rw [show wt (.node 85 wy u l r) = wt l + wt r + 4 from rfl, if_neg (by omega), Nat.pow_add, <- hM, Nat.pow_one]
           simp only [List.length_append, lasT_len, List.length_cons]
           omega
         · split at h
           · rename_i e
             subst e
             rw [if_neg (by omega), if_neg (by omega), if_neg (by omega), if_pos (by omega)] at hw
             obtain ⟨hw0, hwl, hwr⟩ := hw
             obtain ⟨ls, fr, cs, hk, hl, h⟩ := h
             have h1 := comT_len (k := M * wt r) cs fun j hj => by have := up (ihr _ _ hwr (hl j hj)) hmr; rw [<- hM] at this; exact this
             have h40 := hk.2.1
             rw [show wt (.node 82 wy u l r) = wt l + wt r + 4 from rfl, if_neg (by omega), Nat.pow_add, <- hM, Nat.pow_one]
             rcases h with ⟨hc, rfl⟩ | ⟨_, hc, b, rfl, hb⟩
             · have h3 := len_E hM1 (Nat.le_refl (M * wt r)) (Nat.zero_le (M * wt l)) (show cs.length <= 40 by omega)
               rw [Nat.add_comm (wt l) (wt r)]
               simp only [List.length_append, lasT_len, List.length_cons, List.length_nil]
               omega
             · have h2 := up (ihl _ b hwl hb) hml
               rw [<- hM] at h2
               have h3 := len_E hM1 (Nat.le_refl (M * wt r)) h2 (show cs.length <= 40 by omega)
               rw [Nat.add_comm (wt l) (wt r)]
               simp only [List.length_append, lasT_len, List.length_cons]
               omega
           · rename_i e1 e2 e3 e4 e5
             obtain ⟨rfl, hso⟩ := h
             refine hnm ?_
             have ew : wt (.node sg wy u l r) = 1 := by
               by_cases h33 : sg = 33
               · rw [wt, if_pos h33]
               · rw [wt, if_neg h33, if_neg (by omega), if_neg (by omega), if_neg (by omega)]
             rw [ew]
             simpa using hM1
theorem wt_push : ∀ (t : Fm), good t -> ∀ neg, wt (pushT t neg) <= (txt t).length := by
 intro t
 induction t with
 | nil => intro h; exact absurd h (by simp [good])
 | node sg wy u l r ihl ihr =>
   intro h neg
   rcases good_cases h with ⟨c, e, hc, ht⟩ | ⟨x, e, hx, ht⟩ | ⟨s, x, y, e, hs, hx, hy, ht⟩ | ⟨v, x, e, hv, hx, ht⟩ | ⟨s, v, x, y, e, hs, hv, hx, hy, ht⟩
   · rw [ht, e, pushT_atom hc]
     have hc' := hc
     simp only [isAtom, decide_eq_true_eq] at hc'
     cases neg with
     | true => rw [if_pos rfl, wt, if_pos rfl]; simp
     | false => rw [if_neg (by simp), wt, if_neg (by omega), if_neg (by omega), if_neg (by omega), if_neg (by omega)]; simp
   · rw [ht]
     injection e with e3 e0 _ e1 e2
     subst e3 e0 e1 e2
     rw [pushT_not]
     have := ihl hx (!neg)
     simp only [List.length_cons]
     omega
   · rw [ht]
     injection e with e3 e0 _ e1 e2
     subst e3 e0 e1 e2
     rw [pushT_bin hs]
     have h1 := ihl hx neg
     have h2 := ihr hy neg
     have := tn_bin hs neg
     rw [wt, if_neg (by omega), if_pos this]
     simp only [List.length_cons, List.length_append, List.length_nil]
     omega
   · rw [ht]
     injection e with e3 e0 _ e1 e2
     subst e3 e0 e1 e2
     rw [pushT_x]
     have h1 := ihl hx neg
     rw [wt, if_neg (by omega), if_neg (by omega), if_pos rfl]
     simp only [List.length_cons]
     omega
   · rw [ht]
     injection e with e3 e0 _ e1 e2
     subst e3 e0 e1 e2
     rw [pushT_way hs]
     have h1 := ihl hx neg
     have h2 := ihr hy neg
     have := tn_ur hs neg
     rw [wt, if_neg (by omega), if_neg (by omega), if_neg (by omega), if_pos this]
     simp only [List.length_cons, List.length_append, List.length_nil]
     omega
theorem crt_max {G : Gph} {fs : List Nat} {t : Fm} {i : Nat} {c : List UInt8} (hg : good t) (h3 : nst t <= 3) (h30 : (txt t).length <= 30) (hw : shw (pushT t false)) (h : Crt G fs (pushT t false) i c) : c.length <= 4000000 := by
 have h1 := crt_len _ i c hw h
 have h2 := wt_push t hg false
 have h4 := (pushT_is t hg false).2.2
 rw [h4] at h1
 have h5 : 42 ^ nst t <= 42 ^ 3 := Nat.pow_le_pow_right (by omega) h3
 have h6 : 42 ^ nst t * wt (pushT t false) <= 42 ^ 3 * 30 := Nat.mul_le_mul h5 (by omega)
 have h7 : (42 : Nat) ^ 3 * 30 = 2222640 := by decide
 omega
def WalkL (G : Gph) (ls : List Nat) : Prop := ∀ j, j + 1 < ls.length -> G.e (ls.getD j 0) (ls.getD (j + 1) 0) = true
theorem goesL_walk {G : Gph} {fs : List Nat} {ls : List Nat} {fr : Nat} (hw : WalkL G ls) (hc : G.e (ls.getD (ls.length - 1) 0) (ls.getD fr 0) = true) (hm : ∀ x ∈ fs, ∃ j, fr <= j ∧ j < ls.length ∧ G.m (ls.getD j 0) x = true) : goesL G fs ls fr = true := by
 unfold goesL
 rw [Bool.and_eq_true]
 constructor
 · unfold stepsL
   rw [List.all_eq_true]
   intro j hj
   rw [List.mem_range] at hj
   unfold nxt
   by_cases e : j + 1 = ls.length
   · rw [if_pos e, show j = ls.length - 1 from by omega]
     exact hc
   · rw [if_neg e]
     exact hw j (by omega)
 · rw [List.all_eq_true]
   intro x hx
   obtain ⟨j, h1, h2, h3⟩ := hm x hx
   unfold metL
   rw [List.any_eq_true]
   exact ⟨j, List.mem_range.2 h2, by rw [h3, decide_eq_true h1]; rfl⟩
theorem walk_one (G : Gph) (x : Nat) : WalkL G [x] := by intro j hj; simp at hj
theorem walk_cons {G : Gph} {x y : Nat} {r : List Nat} (h : G.e x y = true) (hw : WalkL G (y :: r)) : WalkL G (x :: y :: r) := by
 intro j hj
 cases j with
 | zero => simpa using h
 | succ j => simpa using hw j (by simpa using hj)
theorem walk_join {G : Gph} {a b : List Nat} (ha : WalkL G a) (hb : WalkL G b) (h0 : a ≠ []) (h : G.e (a.getD (a.length - 1) 0) (b.getD 0 0) = true) : WalkL G (a ++ b) := by
 intro j hj
 have hl := List.length_pos_iff.2 h0
 rw [List.length_append] at hj
 simp only [List.getD_eq_getElem?_getD] at h ⊢
 rcases Nat.lt_trichotomy (j + 1) a.length with h1 | h1 | h1
 · rw [List.getElem?_append_left (by omega), List.getElem?_append_left (by omega)]
   simpa [List.getD_eq_getElem?_getD] using ha j h1
 · rw [List.getElem?_append_left (by omega), List.getElem?_append_right (by omega)]
   rw [show j = a.length - 1 from by omega, show a.length - 1 + 1 - a.length = 0 from by omega]
   exact h
 · rw [List.getElem?_append_right (by omega), List.getElem?_append_right (by omega)]
   have := hb (j - a.length) (by omega)
   simp only [List.getD_eq_getElem?_getD] at this
   rw [show j + 1 - a.length = j - a.length + 1 from by omega]
   exact this
end Go.Proofs.YtcfbfdjmcabnkabGreat
namespace Go.Proofs.YtcfbfdjmcabnkabGreat
open Go.RowKit Fw
open Go.Deep (BT)
set_option linter.unusedVariables false
def ShOk (g f s : ByteArray) (n : Int) (c : ByteArray) (E : Nat) : Prop :=
 (lat g f s n ≠ 0 ∧ E = lat g f s n ∧ c = ByteArray.empty) ∨
 (lat g f s n = 0 ∧ holdsB (gphOf g) (fsOf f) (treeOf s) n.toNat = false ∧ E = 9 ∧ c = ByteArray.empty) ∨
 (lat g f s n = 0 ∧ holdsB (gphOf g) (fsOf f) (treeOf s) n.toNat = true ∧ E = 0 ∧ rpl g f s n c = (true, 0))
theorem lat_zeroU {g f s : ByteArray} {n : Int} (h : lat g f s n = 0) : flt g f s = 0 ∧ ¬ n < 0 ∧ ¬ ((gphOf g).n : Int) <= n ∧ anyT (push (treeOf s) false) = false := by
 unfold lat at h
 split at h
 · rename_i h1; exact absurd h h1
 · rename_i h1
   split at h
   · omega
   · rename_i h2
     split at h
     · omega
     · rename_i h3
       exact ⟨by omega, by omega, by omega, by simpa using h3⟩
theorem frm_nest {s : ByteArray} (h : (frm s).1 = 0) : nst (treeOf s) <= 3 := by
 unfold frm at h
 split at h
 · split at h
   · simp at h
   · rename_i h2
     show nst (pt (s.size + 1) (tl s 0)).2.2 <= 3
     omega
 · simp at h
theorem lat_shw {g f s : ByteArray} {n : Int} (h : lat g f s n = 0) : shw (pushT (treeOf s) false) := by
 obtain ⟨h0, hn1, hn2, hA⟩ := lat_zeroU h
 obtain ⟨hg, hs, hck, hfo, hfr⟩ := flt_zero h0
 exact push_shw (treeOf s) (frm_zero hfr).2 false fun x hx he => by
   have : anyT (push (treeOf s) false) = true := by unfold anyT; rw [List.any_eq_true]; exact ⟨x, hx, by simpa using he⟩
   rw [hA] at this; cases this
theorem crt_rpl {g f s : ByteArray} {n : Int} {c : List UInt8} (h : lat g f s n = 0) (hc : Crt (gphOf g) (fsOf f) (pushT (treeOf s) false) n.toNat c) : rpl g f s n (bs c) = (true, 0) := by
 obtain ⟨h0, hn1, hn2, hA⟩ := lat_zeroU h
 obtain ⟨hg, hs, hck, hfo, hfr⟩ := flt_zero h0
 obtain ⟨ht, hgd⟩ := frm_zero hfr
 have hz := size_of ht
 have hl := crt_max hgd (frm_nest hfr) (by omega) (lat_shw h) hc
 have hn6 : (gphOf g).n <= 6 := (run_starts g 6 0 (by omega)).1
 have hr := crt_rep hn6 (s := bs c) _ _ c hc 0 [] (by rw [tl0, bs_list, List.append_nil])
 unfold rpl
 rw [bs_size, if_neg (by omega), if_neg (by omega), hr]
 simp
theorem shown_err (g f s : ByteArray) (n : Int) (w : World) (hf : f.size ≤ 9223372036854775807) (E : Nat) (hE : lat g f s n = E) (h0 : E ≠ 0) :
   Calls Tryz.prog 19 #[.string g, .string f, .string s, .int .i64 n, .string ByteArray.empty, .int .i64 (E : Int)] w fun e w' => e = .returned (.bool true) ∧ Below w.heap.size w w' := by
 have HL := fun W => late_is g f s n W hf
 rw [hE] at HL
 have hn : ((E : Int) != 0) = true := by rw [bne_iff_ne]; omega
 have hn1 : ((E : Int) == 0) = false := by rw [beq_eq_false_iff_ne]; omega
 have hn2 : ((E : Int) == (E : Int)) = true := by simp
 have hbb := bytes_beq ByteArray.empty
 clear hE
 go_enter Tryz.func19, Tryz.ntmps19
 go_wp2_with fail
 refine (HL _).mono ?_
 rintro e w1 ⟨rfl, hb1⟩
 go_wp2_with fail
 go_ret
 exact ⟨rfl, hb1⟩
theorem shown_no (g f s : ByteArray) (st : Nat) (c : ByteArray) (w : World) (hf : f.size ≤ 9223372036854775807) (hE : lat g f s (st : Int) = 0) (hb : holdsB (gphOf g) (fsOf f) (treeOf s) st = false) :
   Calls Tryz.prog 19 #[.string g, .string f, .string s, .int .i64 (st : Int), .string ByteArray.empty, .int .i64 9] w fun e w' => e = .returned (.bool true) ∧ Below w.heap.size w w' := by
 have HL := fun W => late_is g f s (st : Int) W hf
 rw [hE] at HL
 obtain ⟨h0, hn1, hn2, -⟩ := lat_zero hE
 obtain ⟨hg, hs, hck, hfo, hfr⟩ := flt_zero h0
 have HO := fun w' => of_is g w' hg (chk_zero hck).1
 have hfs : f.size <= 1000 := by
   simp only [fairOk, Bool.and_eq_true, decide_eq_true_eq] at hfo
   omega
 have HH := fun gb => holds_any gb (gphOf g) (gph_ok hck) (mrk g (run g 6 0).2.2) f hfs (treeOf s) (frm_zero hfr).2 s (frm_zero hfr).1 (by omega)
 have hn6 : (gphOf g).n <= 6 := (run_starts g 6 0 (by omega)).1
 have HGM := fun (w' : World) (gb : Nat) => gm_of (w := w') (gb := gb) hg
 obtain ⟨G, hG⟩ : ∃ G, G = gphOf g := ⟨_, rfl⟩
 obtain ⟨H, hH⟩ : ∃ H, H = upto G.n (holdsB G (fsOf f) (treeOf s)) := ⟨_, rfl⟩
 have hst : st < G.n := by rw [hG]; omega
 have hHst : H st = false := by rw [hH, upto_lt hst, hG]; exact hb
 rw [<- hG] at HH hn6 HGM
 rw [<- hH] at HH
 have HHH : Hid (∀ gb, HoldIs gb G (mrk g (run g 6 0).2.2) f s H) := HH
 have k0 : (0 : Int) <= (st : Int) := by omega
 have k1 : (st : Int) < 6 := by omega
 have hbb := bytes_beq ByteArray.empty
 have wst : IntKind.i64.wrap (st : Int) = (st : Int) := wrap_small _ (by omega) (by omega)
 clear hG hH h0 hn1 hn2 hck hfo hfr HH hE hb
 go_enter Tryz.func19, Tryz.ntmps19
 go_wp2_with (first
   | (go_at_call 35; refine (HL _).mono ?_; rintro e w1 ⟨rfl, hb1⟩)
   | (go_at_call 31; refine (HO _).mono ?_; rintro e w2 ⟨hb2, gb, hgb, rfl, hgq⟩
      have HG : Hid (Gm w2 gb G (mrk g (run g 6 0).2.2)) := HGM _ _ hgq
      clear hgq)
   | (go_at_call 32; refine (HHH.out gb _ HG).mono ?_; rintro e w3 ⟨rfl, hb3⟩)
   | (refine store6 (by rfl) _ _ (by rfl) w3.heap.size (fun _ => false) _ (by rfl) (by rfl) (arr_zero w3 75) ?_; intro w4 hb4 hz4 hk4 HR4
      have cr : w4.cell? ⟨w3.heap.size, st, none⟩ = some (.bool false) := by have := HR4.c st (by omega); rwa [hHst] at this
      clear HR4 hz4 hk4))
 have hb24 : Below w2.heap.size w2 w4 := Below.to hb3 ((below1 w3 _).trans hb4)
 have hb04 : Below w.heap.size w w4 := Below.to (Below.to hb1 hb2) hb24
 clear hb4 hb3 hb24 hb1 hb2 HL HO HGM HHH HG
 go_ret
 exact ⟨rfl, hb04⟩
theorem shown_yes (g f s : ByteArray) (st : Nat) (c : ByteArray) (w : World) (hf : f.size ≤ 9223372036854775807) (hE : lat g f s (st : Int) = 0) (hb : holdsB (gphOf g) (fsOf f) (treeOf s) st = true) (hrp : rpl g f s (st : Int) c = (true, 0)) :
   Calls Tryz.prog 19 #[.string g, .string f, .string s, .int .i64 (st : Int), .string c, .int .i64 0] w fun e w' => e = .returned (.bool true) ∧ Below w.heap.size w w' := by
 have HL := fun W => late_is g f s (st : Int) W hf
 rw [hE] at HL
 obtain ⟨h0, hn1, hn2, -⟩ := lat_zero hE
 obtain ⟨hg, hs, hck, hfo, hfr⟩ := flt_zero h0
 have HO := fun w' => of_is g w' hg (chk_zero hck).1
 have hfs : f.size <= 1000 := by
   simp only [fairOk, Bool.and_eq_true, decide_eq_true_eq] at hfo
   omega
 have HH := fun gb => holds_any gb (gphOf g) (gph_ok hck) (mrk g (run g 6 0).2.2) f hfs (treeOf s) (frm_zero hfr).2 s (frm_zero hfr).1 (by omega)
 have hn6 : (gphOf g).n <= 6 := (run_starts g 6 0 (by omega)).1
 have HGM := fun (w' : World) (gb : Nat) => gm_of (w := w') (gb := gb) hg
 obtain ⟨G, hG⟩ : ∃ G, G = gphOf g := ⟨_, rfl⟩
 obtain ⟨H, hH⟩ : ∃ H, H = upto G.n (holdsB G (fsOf f) (treeOf s)) := ⟨_, rfl⟩
 have hst : st < G.n := by rw [hG]; omega
 have hHst : H st = true := by rw [hH, upto_lt hst, hG]; exact hb
 rw [<- hG] at HH hn6 HGM
 rw [<- hH] at HH
 have HHH : Hid (∀ gb, HoldIs gb G (mrk g (run g 6 0).2.2) f s H) := HH
 have k0 : (0 : Int) <= (st : Int) := by omega
 have k1 : (st : Int) < 6 := by omega
 have HRP := fun W => refReplay_any g f s (st : Int) c W hf
 rw [hrp] at HRP
 have wst : IntKind.i64.wrap (st : Int) = (st : Int) := wrap_small _ (by omega) (by omega)
 clear hG hH h0 hn1 hn2 hck hfo hfr HH hE hb
 go_enter Tryz.func19, Tryz.ntmps19
 go_wp2_with (first
   | (go_at_call 35; refine (HL _).mono ?_; rintro e w1 ⟨rfl, hb1⟩)
   | (go_at_call 31; refine (HO _).mono ?_; rintro e w2 ⟨hb2, gb, hgb, rfl, hgq⟩
      have HG : Hid (Gm w2 gb G (mrk g (run g 6 0).2.2)) := HGM _ _ hgq
      clear hgq)
   | (go_at_call 32; refine (HHH.out gb _ HG).mono ?_; rintro e w3 ⟨rfl, hb3⟩)
   | (refine store6 (by rfl) _ _ (by rfl) w3.heap.size (fun _ => false) _ (by rfl) (by rfl) (arr_zero w3 75) ?_; intro w4 hb4 hz4 hk4 HR4
      have cr : w4.cell? ⟨w3.heap.size, st, none⟩ = some (.bool true) := by have := HR4.c st (by omega); rwa [hHst] at this
      clear HR4 hz4 hk4))
 have hb24 : Below w2.heap.size w2 w4 := Below.to hb3 ((below1 w3 _).trans hb4)
 have hb04 : Below w.heap.size w w4 := Below.to (Below.to hb1 hb2) hb24
 clear hb4 hb3 hb24 hb1 hb2 HL HO HGM HHH HG
 refine (HRP _).mono ?_
 rintro e w5 ⟨rfl, hb5⟩
 have hb05 : Below w.heap.size w w5 := Below.to hb04 hb5
 clear hb5 hb04
 go_wp2_with fail
 go_ret
 exact ⟨rfl, hb05⟩
theorem shown_all (g f s : ByteArray) (n : Int) (c : ByteArray) (E : Nat) (w : World) (hf : f.size ≤ 9223372036854775807) (h : ShOk g f s n c E) :
   Calls Tryz.prog 19 #[.string g, .string f, .string s, .int .i64 n, .string c, .int .i64 (E : Int)] w fun e w' => e = .returned (.bool true) ∧ Below w.heap.size w w' := by
 rcases h with ⟨h1, h2, rfl⟩ | ⟨h1, h2, rfl, rfl⟩ | ⟨h1, h2, rfl, h3⟩
 · exact shown_err g f s n w hf E h2.symm (by omega)
 · obtain ⟨-, hn1, hn2, -⟩ := lat_zero h1
   obtain ⟨st, rfl⟩ : ∃ st : Nat, n = (st : Int) := ⟨n.toNat, by omega⟩
   exact shown_no g f s st ByteArray.empty w hf h1 h2
 · obtain ⟨-, hn1, hn2, -⟩ := lat_zero h1
   obtain ⟨st, rfl⟩ : ∃ st : Nat, n = (st : Int) := ⟨n.toNat, by omega⟩
   exact shown_yes g f s st c w hf h1 h2 h3
end Go.Proofs.YtcfbfdjmcabnkabGreat
