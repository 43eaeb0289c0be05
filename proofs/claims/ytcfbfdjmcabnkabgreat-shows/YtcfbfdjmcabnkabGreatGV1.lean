import Derived.Deep.RegionHeld3
import Derived.Test.YtcfbfdjmcabnkabGreatGUb
import Derived.Test.YtcfbfdjmcabnkabGreatG10
import Derived.Test.YtcfbfdjmcabnkabGreatGR1
import Derived.Test.YtcfbfdjmcabnkabGreatGS
set_option maxRecDepth 100000
set_option maxHeartbeats 4000000
namespace Go.Proofs.YtcfbfdjmcabnkabGreat
open Fw
open Go.Deep (BT)
set_option linter.unusedVariables false
def Wk (e : Nat -> Nat -> Bool) (a : Nat -> Bool) : Nat -> List Nat -> Prop
 | _, [] => True
 | i, j :: r => a i = true ∧ e i j = true ∧ Wk e a j r
def endp : Nat -> List Nat -> Nat
 | i, [] => i
 | _, j :: r => endp j r
theorem endp_snoc (j : Nat) : ∀ (ex : List Nat) (i : Nat), endp i (ex ++ [j]) = j
 | [], _ => rfl
 | x :: r, i => endp_snoc j r x
theorem endp_app : ∀ (a b : List Nat) (i : Nat), endp i (a ++ b) = endp (endp i a) b
 | [], _, _ => rfl
 | x :: r, b, i => endp_app r b x
theorem wk_app {e : Nat -> Nat -> Bool} {a : Nat -> Bool} : ∀ (x y : List Nat) (i : Nat), Wk e a i x -> Wk e a (endp i x) y -> Wk e a i (x ++ y)
 | [], _, _, _, h => h
 | j :: r, y, i, h1, h2 => ⟨h1.1, h1.2.1, wk_app r y j h1.2.2 h2⟩
theorem wk_snoc {e : Nat -> Nat -> Bool} {a : Nat -> Bool} {i j : Nat} {ex : List Nat} (h : Wk e a i ex) (h1 : a (endp i ex) = true) (h2 : e (endp i ex) j = true) : Wk e a i (ex ++ [j]) :=
 wk_app ex [j] i h ⟨h1, h2, trivial⟩
theorem wk_all {e : Nat -> Nat -> Bool} {a : Nat -> Bool} : ∀ (ex : List Nat) (i : Nat), Wk e a i ex -> a (endp i ex) = true -> a i = true ∧ ∀ x ∈ ex, a x = true
 | [], i, _, h => ⟨h, by simp⟩
 | j :: r, i, h, h2 => by
   have := wk_all r j h.2.2 h2
   refine ⟨h.1, fun x hx => ?_⟩
   rcases List.mem_cons.1 hx with rfl | hx
   · exact this.1
   · exact this.2 x hx
theorem wk_lt {G : Gph} (ok : G.ok) {a : Nat -> Bool} : ∀ (ex : List Nat) (i : Nat), Wk G.e a i ex -> ∀ x ∈ ex, x < G.n
 | [], i, _ => by simp
 | j :: r, i, h => fun x hx => by
   rcases List.mem_cons.1 hx with rfl | hx
   · exact (ok _ _ h.2.1).2
   · exact wk_lt ok r j h.2.2 x hx
theorem wk_get {e : Nat -> Nat -> Bool} {a : Nat -> Bool} : ∀ (ex : List Nat) (i : Nat), Wk e a i ex -> ∀ k, k < ex.length -> a ((i :: ex).getD k 0) = true
 | [], i, _, k, hk => by simp at hk
 | j :: r, i, h, k, hk => by
   cases k with
   | zero => simpa using h.1
   | succ k => simpa using wk_get r j h.2.2 k (by simpa using hk)
theorem lastL_app (ls ex : List Nat) (h : ls ≠ []) : lastL (ls ++ ex) = endp (lastL ls) ex := by
 have hl := List.length_pos_iff.2 h
 unfold lastL
 induction ex generalizing ls with
 | nil => simp [endp]
 | cons x r ih =>
   have := ih (ls ++ [x]) (by simp) (by simp)
   simp only [List.append_assoc, List.singleton_append] at this
   rw [this, endp]
   congr 1
   simp [List.getD]
theorem lastL_snoc (ls : List Nat) (x : Nat) : lastL (ls ++ [x]) = x := by simp [lastL, List.getD]
theorem walkL_wk {G : Gph} {a : Nat -> Bool} (ls : List Nat) (h : ls ≠ []) (hw : WalkL G ls) : ∀ (ex : List Nat), Wk G.e a (lastL ls) ex -> WalkL G (ls ++ ex) := by
 intro ex
 induction ex generalizing ls with
 | nil => intro _; simpa using hw
 | cons x r ih =>
   intro hk
   have h1 : WalkL G (ls ++ [x]) := walk_join hw (walk_one G x) h (by simpa [lastL] using hk.2.1)
   have := ih (ls ++ [x]) (by simp) h1 (by rw [lastL_snoc]; exact hk.2.2)
   simpa using this
theorem rea_up {e : Nat -> Nat -> Bool} {a b : Nat -> Bool} {k i : Nat} (h : rea e a b (k + 1) i = true) (hn : rea e a b k i = false) : a i = true ∧ ahd e (rea e a b k) i = true := by
 rw [rea, hn, Bool.false_or, Bool.and_eq_true] at h
 exact h
structure PthOk (e : Nat -> Nat -> Bool) (a b : Nat -> Bool) (i : Nat) (ex : List Nat) : Prop where
 wk : Wk e a i ex
 le : ex.length <= 5
 en : b (endp i ex) = true
structure PthAt (e : Nat -> Nat -> Bool) (a b : Nat -> Bool) (i k : Nat) (ex : List Nat) : Prop where
 wk : Wk e a i ex
 le : ex.length + k <= 5
 en : rea e a b k (endp i ex) = true
theorem PthAt.start {e : Nat -> Nat -> Bool} {a b : Nat -> Bool} {i : Nat} (h : rea e a b 5 i = true) : PthAt e a b i 5 [] := ⟨trivial, by simp, h⟩
theorem PthAt.stay {e : Nat -> Nat -> Bool} {a b : Nat -> Bool} {i k : Nat} {ex : List Nat} (h : PthAt e a b i (k + 1) ex) (h1 : rea e a b k (endp i ex) = true) : PthAt e a b i k ex := ⟨h.wk, by have := h.le; omega, h1⟩
theorem PthAt.step {e : Nat -> Nat -> Bool} {a b : Nat -> Bool} {i k j : Nat} {ex : List Nat} (h : PthAt e a b i (k + 1) ex) (h1 : rea e a b k (endp i ex) = false) (h2 : e (endp i ex) j = true) (h3 : rea e a b k j = true) : PthAt e a b i k (ex ++ [j]) :=
 ⟨wk_snoc h.wk (rea_up h.en h1).1 h2, by have := h.le; simp; omega, by rw [endp_snoc]; exact h3⟩
theorem PthAt.fin {e : Nat -> Nat -> Bool} {a b : Nat -> Bool} {i : Nat} {ex : List Nat} (h : PthAt e a b i 0 ex) : PthOk e a b i ex := ⟨h.wk, by have := h.le; omega, h.en⟩
theorem walk_mono {e : Nat -> Nat -> Bool} {S R : Nat -> Prop} {i j m : Nat} {p : Nat -> Nat} (h : Walk e S i j m p) (hr : ∀ k, k < m -> R (p k)) : Walk e R i j m p := ⟨h.1, h.2.1, fun k hk => ⟨hr k hk, (h.2.2 k hk).2⟩⟩
theorem walk_pre {e : Nat -> Nat -> Bool} {S : Nat -> Prop} {i j m k : Nat} {p : Nat -> Nat} (h : Walk e S i j m p) (hk : k <= m) : Walk e S i (p k) k p := ⟨h.1, rfl, fun t ht => h.2.2 t (by omega)⟩
theorem walk_suf {e : Nat -> Nat -> Bool} {S : Nat -> Prop} {i j m k : Nat} {p : Nat -> Nat} (h : Walk e S i j m p) (hk : k <= m) : Walk e S (p k) j (m - k) (fun t => p (k + t)) :=
 ⟨rfl, by show p (k + (m - k)) = j; rw [show k + (m - k) = m from by omega]; exact h.2.1, fun t ht => by have := h.2.2 (k + t) (by omega); rw [Nat.add_assoc] at this; exact this⟩
theorem rch_trans {e : Nat -> Nat -> Bool} {S : Nat -> Prop} {i j k : Nat} (h : Rch e S i j) (g : Rch e S j k) : Rch e S i k := by
 obtain ⟨m, p, hm, hw⟩ := h
 obtain ⟨l, q, hl, hv⟩ := g
 exact ⟨m + l, _, by omega, hw.glue hv⟩
section
variable {G : Gph} {fs : List Nat}
theorem ard_rch (ok : G.ok) (hn : G.n <= 6) {S : Nat -> Bool} {c x y : Nat} (hx : ardP (stp G S 6) c x = true) (hy : ardP (stp G S 6) c y = true) : Rch G.e (fun d => ardP (stp G S 6) c d = true) x y := by
 unfold ardP at hx hy ⊢
 simp only [Bool.and_eq_true, stp_iff ok hn] at hx hy ⊢
 obtain ⟨⟨hcx, hSx⟩, hxc, hSc⟩ := hx
 obtain ⟨⟨hcy, hSy⟩, hyc, _⟩ := hy
 obtain ⟨m, p, hm, hw⟩ := rch_trans hxc hcy
 refine ⟨m, p, hm, walk_mono hw fun k hk => ?_⟩
 have hSk := (hw.2.2 k hk).1
 refine ⟨⟨?_, hSk⟩, ?_, hSc⟩
 · by_cases h0 : k = 0
   · subst h0; rw [hw.1]; exact hcx
   · exact rch_trans hcx ⟨k, p, by omega, walk_pre hw (by omega)⟩
 · exact rch_trans ⟨m - k, _, by omega, walk_suf hw (by omega)⟩ hyc
theorem ard_self {T : Nat -> Nat -> Bool} {c : Nat} (h : rnd G fs T c = true) : ardP T c c = true := by
 unfold rnd at h
 rw [Bool.and_eq_true] at h
 unfold ardP
 rw [h.1]; rfl
theorem ard_in (ok : G.ok) (hn : G.n <= 6) {S : Nat -> Bool} {c x : Nat} (hx : ardP (stp G S 6) c x = true) : S x = true := by
 unfold ardP at hx
 simp only [Bool.and_eq_true, stp_iff ok hn] at hx
 exact hx.1.2
theorem ard_mark (ok : G.ok) (hn : G.n ≤ 6) {S : Nat → Bool} {c x f : Nat} (h : rnd G fs (stp G S 6) c = true) (hf : f ∈ fs) (hx : ardP (stp G S 6) c x = true) :
   rea G.e (ardP (stp G S 6) c) (fun d => ardP (stp G S 6) c d && G.m d f) 5 x = true := by
 have h0 := h
 unfold rnd at h
 rw [Bool.and_eq_true, List.all_eq_true] at h
 obtain ⟨d, hd, h1⟩ := any6_iff.1 (h.2 f hf)
 rw [rea_iff (e_ok ok hn)]
 rw [Bool.and_eq_true] at h1
 have hd2 : ardP (stp G S 6) c d = true := h1.1
 exact .inr ⟨d, by show (_ && _) = true; rw [hd2, h1.2]; rfl, ard_rch ok hn hx hd2⟩
theorem ard_back (ok : G.ok) (hn : G.n ≤ 6) {S : Nat → Bool} {c x : Nat} (h : rnd G fs (stp G S 6) c = true) (hx : ardP (stp G S 6) c x = true) :
   rea G.e (ardP (stp G S 6) c) (fun d => ardP (stp G S 6) c d && ahd G.e (fun j => decide (j = c)) d) 5 x = true := by
 obtain ⟨m, p, hm, hw⟩ := ard_rch ok hn (ard_self h) (ard_self h)
 have hlast := hw.2.2 (m - 1) (by omega)
 rw [show m - 1 + 1 = m from by omega, hw.2.1] at hlast
 rw [rea_iff (e_ok ok hn)]
 refine .inr ⟨p (m - 1), ?_, ard_rch ok hn hx hlast.1⟩
 show (_ && _) = true
 rw [show ardP (stp G S 6) c (p (m - 1)) = true from hlast.1, Bool.true_and]
 exact any6_iff.2 ⟨c, (e_ok ok hn _ _ hlast.2).2, by simpa using hlast.2⟩
theorem back_e {c d : Nat} (h : ahd G.e (fun j => decide (j = c)) d = true) : G.e d c = true := by
 obtain ⟨j, _, hj⟩ := any6_iff.1 h
 simp only [Bool.and_eq_true, decide_eq_true_eq] at hj
 rw [<- hj.2]; exact hj.1
theorem met_iff (L : List Nat) (fr f : Nat) : metL G L fr f L.length = true ↔ ∃ j, fr <= j ∧ j < L.length ∧ G.m (L.getD j 0) f = true := by
 unfold metL
 rw [List.any_eq_true]
 constructor
 · rintro ⟨j, hj, h⟩
   simp only [Bool.and_eq_true, decide_eq_true_eq] at h
   exact ⟨j, h.1, List.mem_range.1 hj, h.2⟩
 · rintro ⟨j, h1, h2, h3⟩
   exact ⟨j, List.mem_range.2 h2, by rw [h3, decide_eq_true h1]; rfl⟩
theorem met_more {L : List Nat} {fr f : Nat} (ex : List Nat) (h : metL G L fr f L.length = true) : metL G (L ++ ex) fr f (L ++ ex).length = true := by
 obtain ⟨j, h1, h2, h3⟩ := (met_iff L fr f).1 h
 exact (met_iff _ fr f).2 ⟨j, h1, by simp; omega, by rw [List.getD, List.getElem?_append_left h2]; simpa [List.getD] using h3⟩
theorem met_last {L : List Nat} {fr f : Nat} (h : fr < L.length) (h1 : G.m (lastL L) f = true) : metL G L fr f L.length = true :=
 (met_iff L fr f).2 ⟨L.length - 1, by omega, by omega, h1⟩
structure RndAt (G : Gph) (R : Nat -> Bool) (ls ex : List Nat) (ks : List Nat) (k : Nat) : Prop where
 wk : Wk G.e R (lastL ls) ex
 en : R (lastL (ls ++ ex)) = true
 met : ∀ f ∈ ks, metL G (ls ++ ex) (ls.length - 1) f (ls ++ ex).length = true
 le : ex.length <= 5 * k
theorem RndAt.start {R : Nat -> Bool} {ls : List Nat} (h : R (lastL ls) = true) : RndAt G R ls [] [] 0 := ⟨trivial, by simpa using h, by simp, by simp⟩
theorem RndAt.skip {R : Nat -> Bool} {ls ex ks : List Nat} {k f : Nat} (h : RndAt G R ls ex ks k) (h1 : metL G (ls ++ ex) (ls.length - 1) f (ls ++ ex).length = true) : RndAt G R ls ex (ks ++ [f]) (k + 1) :=
 ⟨h.wk, h.en, fun x hx => by
   rcases List.mem_append.1 hx with hx | hx
   · exact h.met x hx
   · rw [List.mem_singleton.1 hx]; exact h1, by have := h.le; omega⟩
theorem RndAt.more {R : Nat -> Bool} {ls ex ks : List Nat} {k f : Nat} {ey : List Nat} (h : RndAt G R ls ex ks k) (h0 : ls ≠ []) (h1 : PthOk G.e R (fun d => R d && G.m d f) (lastL (ls ++ ex)) ey) : RndAt G R ls (ex ++ ey) (ks ++ [f]) (k + 1) := by
 have h2 := h1.en
 rw [Bool.and_eq_true] at h2
 have hl := List.length_pos_iff.2 h0
 have e1 : lastL (ls ++ (ex ++ ey)) = endp (lastL (ls ++ ex)) ey := by rw [<- List.append_assoc, lastL_app _ _ (by simp [h0])]
 have hw := h1.wk
 refine ⟨wk_app ex ey _ h.wk (by rw [<- lastL_app _ _ h0]; exact hw), by rw [e1]; exact h2.1, fun x hx => ?_, by have := h.le; have := h1.le; simp; omega⟩
 rcases List.mem_append.1 hx with hx | hx
 · rw [<- List.append_assoc]; exact met_more ey (h.met x hx)
 · rw [List.mem_singleton.1 hx]
   exact met_last (by simp; omega) (by rw [e1]; exact h2.2)
structure EndOk (G : Gph) (fs : List Nat) (S : Nat -> Bool) (ls ex : List Nat) (fr : Nat) : Prop where
 fl : fr < (ls ++ ex).length
 le : ex.length <= 5 + 5 * (fs.length + 1)
 inS : ∀ x ∈ ex, S x = true
 lt : ∀ x ∈ ex, x < G.n
 goes : WalkL G ls -> goesL G fs (ls ++ ex) fr = true
theorem RndAt.close (ok : G.ok) (hn : G.n ≤ 6) {S : Nat → Bool} {ls e0 ex ey : List Nat} {k : Nat} (h0 : ls ≠ []) (hw0 : Wk G.e S (lastL ls) e0) (hl0 : e0.length ≤ 5)
   (h : RndAt G (ardP (stp G S 6) (lastL (ls ++ e0))) (ls ++ e0) ex fs k) (hk : k <= fs.length) (h1 : PthOk G.e (ardP (stp G S 6) (lastL (ls ++ e0))) (fun d => ardP (stp G S 6) (lastL (ls ++ e0)) d && ahd G.e (fun j => decide (j = lastL (ls ++ e0))) d) (lastL (ls ++ e0 ++ ex)) ey)
   (hr : rnd G fs (stp G S 6) (lastL (ls ++ e0)) = true) : EndOk G fs S ls (e0 ++ (ex ++ ey)) ((ls ++ e0).length - 1) := by
 have hl := List.length_pos_iff.2 h0
 have h2 := h1.en
 rw [Bool.and_eq_true] at h2
 have h00 : ls ++ e0 ≠ [] := by simp [h0]
 have hcS : S (lastL (ls ++ e0)) = true := ard_in ok hn (ard_self hr)
 have hw1 : Wk G.e (ardP (stp G S 6) (lastL (ls ++ e0))) (lastL (ls ++ e0)) (ex ++ ey) := wk_app ex ey _ h.wk (by rw [<- lastL_app _ _ h00]; exact h1.wk)
 have he1 : endp (lastL (ls ++ e0)) (ex ++ ey) = endp (lastL (ls ++ e0 ++ ex)) ey := by rw [endp_app, <- lastL_app _ _ h00]
 have hall1 := wk_all (ex ++ ey) _ hw1 (by rw [he1]; exact h2.1)
 have hall0 := wk_all e0 _ hw0 (by rw [<- lastL_app _ _ h0]; exact hcS)
 have hle := h.le
 have hle1 := h1.le
 refine ⟨by simp; omega, by simp; omega, ?_, ?_, fun hw => ?_⟩
 · intro x hx
   rcases List.mem_append.1 hx with hx | hx
   · exact hall0.2 x hx
   · exact ard_in ok hn (hall1.2 x hx)
 · intro x hx
   rcases List.mem_append.1 hx with hx | hx
   · exact wk_lt ok _ _ hw0 x hx
   · exact wk_lt ok _ _ hw1 x hx
 · have hwl := walkL_wk (ls ++ e0) h00 (walkL_wk ls h0 hw e0 hw0) (ex ++ ey) hw1
   rw [<- List.append_assoc]
   refine goesL_walk hwl ?_ ?_
   · have : lastL (ls ++ e0 ++ (ex ++ ey)) = endp (lastL (ls ++ e0 ++ ex)) ey := by rw [lastL_app _ _ h00, he1]
     show G.e (lastL (ls ++ e0 ++ (ex ++ ey))) _ = true
     rw [this]
     have hb := back_e h2.2
     have : (ls ++ e0 ++ (ex ++ ey)).getD ((ls ++ e0).length - 1) 0 = lastL (ls ++ e0) := by
       unfold lastL
       have : 0 < (ls ++ e0).length := List.length_pos_iff.2 h00
       rw [List.getD, List.getElem?_append_left (by omega), List.getD]
     rw [this]
     exact hb
   · intro f hf
     have := met_more ey (h.met f hf)
     rw [List.append_assoc (ls ++ e0)] at this
     exact (met_iff _ _ _).1 this
theorem EndOk.las {S : Nat -> Bool} {i : Nat} {ls ex : List Nat} {fr : Nat} (h : EndOk G fs S ls ex fr) (h0 : ls ≠ []) (hi : ls.getD 0 0 = i) (hw : WalkL G ls) (hlt : ∀ y ∈ ls, y < G.n) (hle : ls.length <= 20) (hf : fs.length <= 2) : LasOk G fs i (ls ++ ex) fr := by
 have hl := List.length_pos_iff.2 h0
 have := h.le
 refine ⟨h.fl, by simp; omega, fun y hy => ?_, ?_, h.goes hw⟩
 · rcases List.mem_append.1 hy with hy | hy
   · exact hlt y hy
   · exact h.lt y hy
 · rw [List.getD, List.getElem?_append_left hl]
   simpa [List.getD] using hi
theorem stay_beg (ok : G.ok) (hn : G.n <= 6) {i : Nat} (h : begP G fs i = true) : stayP G fs (begP G fs) i = true := by
 rw [stayP_iff ok hn]
 obtain ⟨σ, hσ⟩ := (begP_iff ok hn).1 h
 refine ⟨σ, hσ, fun k => (begP_iff ok hn).2 ⟨fun t => σ (k + t), rfl, fun t => by have := hσ.step (k + t); rw [Nat.add_assoc] at this; exact this, fun f hf N => ?_⟩⟩
 obtain ⟨t, h1, h2⟩ := hσ.fair f hf (k + N)
 exact ⟨t - k, by omega, by show G.m (σ (k + (t - k))) f = true; rw [show k + (t - k) = t from by omega]; exact h2⟩
end
end Go.Proofs.YtcfbfdjmcabnkabGreat
namespace Go.Proofs.YtcfbfdjmcabnkabGreat
open Go.RowKit Fw
open Go.Deep (BT)
set_option linter.unusedVariables false
theorem Arr.sameB {w w' : World} {B n : Nat} {f : Nat -> Bool} (h : Arr w B n f) (hs : w.heap.size <= w'.heap.size) (hb : w'.heap[B]? = w.heap[B]?) : Arr w' B n f :=
 ⟨Nat.lt_of_lt_of_le h.lt hs, fun i hi => (World.cell?_of_block (w := w) hb).trans (h.c i hi), fun o ho => (World.frozen?_of_block (w := w) hb).trans (h.z o ho)⟩
theorem Arr.kq {w w' : World} {B n H : Nat} {f : Nat -> Bool} (h : Arr w B n f) (k : Kq H w w') (hb : B ≠ H) : Arr w' B n f := h.sameB k.size (k.keep B h.lt hb)
theorem Mat.kq {w w' : World} {B H : Nat} {M : Nat -> Nat -> Bool} (h : Mat w B M) (k : Kq H w w') (hb : B ≠ H) : Mat w' B M :=
 ⟨Nat.lt_of_lt_of_le h.lt k.size, fun i j hi hj => (World.cell?_of_block (w := w) (k.keep B h.lt hb)).trans (h.c i j hi hj), fun o ho => (World.frozen?_of_block (w := w) (k.keep B h.lt hb)).trans (h.z o ho)⟩
theorem Wy.kq {w w' : World} {b o H : Nat} {G : Gph} {K : Nat -> ByteArray} {f : ByteArray} {B : Nat -> Bool} (h : Wy w b o G K f B) (k : Kq H w w') (hb : b ≠ H) : Wy w' b o G K f B := by
 have cb : ∀ j, w'.cell? ⟨b, j, none⟩ = w.cell? ⟨b, j, none⟩ := fun j => World.cell?_of_block (w := w) (k.keep b h.lt hb)
 exact ⟨Nat.lt_of_lt_of_le h.lt k.size, h.n6, (cb _).trans h.cn, fun i hi => (cb _).trans (h.cm i hi), fun i j hi hj => (cb _).trans (h.ce i j hi hj), (cb _).trans h.cf, fun i hi => (cb _).trans (h.cb i hi), h.ks, h.mm⟩
theorem nextIn_is (b o i : Nat) (G : Gph) (K : Nat → ByteArray) (f : ByteArray) (B S : Nat → Bool) (hi : i < 6) (ha : ahd G.e S i = true) (w : World) (HG : Hid (Wy w b o G K f B)) :
   Calls Tryz.prog 116 #[.pointer (some ⟨b, o, none⟩), .int .i64 (i : Int), .agg (six S)] w fun e w' => ∃ j : Nat, e = .returned (.int .i64 (j : Int)) ∧ G.e i j = true ∧ S j = true ∧ Below w.heap.size w w' := by
 have hgl := HG.out.lt
 have HB : Hid (Arr (w.alloc (.cells (six S) 65)) w.heap.size 6 S) := arr_new w S 65
 have hb1 : Below w.heap.size w (w.alloc (.cells (six S) 65)) := (Below.refl _ _).alloc (Nat.le_refl _) _
 have HGr : Hid (Wy (w.alloc (.cells (six S) 65)) b o G K f B) := HG.out.below hb1 hgl
 have HA : Hid (ahd G.e S i = true) := ha
 have c0 : (0 : Int) <= (i : Int) := by omega
 have c1 : (i : Int) < 6 := by omega
 clear ha
 go_enter Tryz.func116, Tryz.ntmps116
 go_wp2_with fail
 go_loop [7] (fun q => ∃ k : Nat, k <= 6 ∧ q = .int .i64 k ∧ Hid (∀ j, j < k -> (G.e i j && S j) = false)) (fun q => 6 - (intOf q).toNat)
 case atStart => exact ⟨0, by omega, rfl, fun j hj => by omega⟩
 case round =>
   obtain ⟨k, hk, rfl, HF⟩ := hrel
   by_cases hlt : k < 6
   · have ce := HGr.out.ce i k hi hlt
     have cs := HB.out.c k hlt
     have k0 : (0 : Int) <= (k : Int) := by omega
     have k1 : (k : Int) < 6 := by omega
     have HX : Hid ((G.e i k && S k) = (G.e i k && S k)) := rfl
     have HE : Hid (∀ y, G.e i k = y -> G.e i k = y) := fun _ h => h
     cases hy : G.e i k with
     | false =>
       rw [hy] at ce
       have HN : Hid (∀ j, j < k + 1 -> (G.e i j && S j) = false) := fun j hj => by
         by_cases e : j = k
         · subst e; rw [hy]; rfl
         · exact HF.out j (by omega)
       clear hy HX HE
       go_wp2_with fail
       go_round
       case rel => exact ⟨k + 1, by omega, by go_num, HN⟩
       case measure => simp [intOf]; omega
     | true =>
       rw [hy] at ce
       cases hz : S k with
       | false =>
         rw [hz] at cs
         have HN : Hid (∀ j, j < k + 1 -> (G.e i j && S j) = false) := fun j hj => by
           by_cases e : j = k
           · subst e; rw [hz, Bool.and_false]
           · exact HF.out j (by omega)
         clear hy hz HX HE
         go_wp2_with fail
         go_round
         case rel => exact ⟨k + 1, by omega, by go_num, HN⟩
         case measure => simp [intOf]; omega
       | true =>
         rw [hz] at cs
         have HY : Hid (G.e i k = true) := hy
         have HZ : Hid (S k = true) := hz
         clear hy hz HX HE
         go_wp2_with fail
         go_ret
         exact ⟨k, rfl, HY.out, HZ.out, hb1⟩
   · exfalso
     obtain rfl : k = 6 := by omega
     obtain ⟨j, hj, h⟩ := any6_iff.1 HA.out
     have := HF.out j hj
     rw [h] at this
     cases this
theorem lassoFrom_is (st : Nat) (w : World) :
   Calls Tryz.prog 117 #[.int .i64 (st : Int)] w fun e w' => ∃ C : List Value, e = .returned (.agg C.toArray) ∧ C = lasC [st] [st].length 0 ∧ Below w.heap.size w w' := by
 go_enter Tryz.func117, Tryz.ntmps117
 go_wp2_with fail
 rw [show (#[Value.int IntKind.i64 0, Value.int IntKind.i64 0, Value.int IntKind.i64 0, Value.int IntKind.i64 0, Value.int IntKind.i64 0, Value.int IntKind.i64 0, Value.int IntKind.i64 0, Value.int IntKind.i64 0, Value.int IntKind.i64 0, Value.int IntKind.i64 0, Value.int IntKind.i64 0, Value.int IntKind.i64 0, Value.int IntKind.i64 0, Value.int IntKind.i64 0, Value.int IntKind.i64 0, Value.int IntKind.i64 0, Value.int IntKind.i64 0, Value.int IntKind.i64 0, Value.int IntKind.i64 0, Value.int IntKind.i64 0, Value.int IntKind.i64 0, Value.int IntKind.i64 0, Value.int IntKind.i64 0, Value.int IntKind.i64 0, Value.int IntKind.i64 0, Value.int IntKind.i64 0, Value.int IntKind.i64 0, Value.int IntKind.i64 0, Value.int IntKind.i64 0, Value.int IntKind.i64 0, Value.int IntKind.i64 0, Value.int IntKind.i64 0, Value.int IntKind.i64 0, Value.int IntKind.i64 0, Value.int IntKind.i64 0, Value.int IntKind.i64 0, Value.int IntKind.i64 0, Value.int IntKind.i64 0, Value.int IntKind.i64 0, Value.int IntKind.i64 0, Value.int IntKind.i64 0, Value.int IntKind.i64 0] : Array Value) = (lasC [] 0 0).toArray from rfl]
 generalize hW : (w.alloc (Obj.cells (lasC [] 0 0).toArray 166)).alloc (Obj.cells (lasC [] 0 0).toArray 166) = w0
 have HL0 : Hid (Ls w0 (w.heap.size + 1) [] 0) := by show Ls _ _ _ _; rw [<- hW]; exact ls_zero2 w _
 have HB0 : Hid (Ls w0 w.heap.size [] 0) := by show Ls _ _ _ _; rw [<- hW]; exact (ls_zero1 w).alloc _
 have hb0 : Below w.heap.size w w0 := by rw [<- hW]; exact below2S w _ _
 clear hW
 refine (add_is (w.heap.size + 1) 0 st [] _ (by simp) HL0).mono ?_
 rintro e w1 ⟨rfl, hl1, hk1, hz1⟩
 have HB1 : Hid (Ls w1 w.heap.size [] 0) := HB0.out.kq hk1 (by omega)
 have hb1 : Below w.heap.size w w1 := hb0.trans ((hk1.below (by have := HL0.out.lt; omega)).mono (by omega))
 have hCl := lasC_len [st] [st].length 0
 have hCo := lasC_one [st] [st].length 0
 have hrg := hl1.range
 rw [List.nil_append] at hrg
 obtain ⟨C, hC⟩ : ∃ C, C = lasC [st] [st].length 0 := ⟨_, rfl⟩
 rw [<- hC] at hCl hCo hrg
 have HRG : Hid (w1.rangeAt (w.heap.size + 1) 0 C) := hrg
 have HCO : Hid (C.toArray.all (·.oneCell') = true) := hCo
 have HCE : Hid (C = lasC [st] [st].length 0) := hC
 have hCs : C.toArray.size = 42 := by simp [hCl]
 clear hC hrg hCo hl1 hk1 hz1 HB0 HL0
 go_wp2_with (first
   | (refine loadT 166 42 Tryz.size166 Tryz.row166 (by rfl) _ (by rfl) (w.heap.size + 1) (by rfl) C HRG.out hCl ?_)
   | (refine storeT 166 42 Tryz.size166 (by rfl) _ _ (by rfl) w.heap.size C.toArray (by rfl) (by rfl) HB1.out.there hCs HCO.out ?_; intro w7 hb7 hz7 hk7 hr7))
 exact bodyPost_ret (resultT Tryz.results117 Tryz.size166 Tryz.row166 _ _ w.heap.size C rfl (by simpa using hr7) hCl) rfl ⟨C, rfl, HCE.out, hb1.trans hb7⟩
theorem Kq.ofBelow {H : Nat} {w w' : World} (h : Below w.heap.size w w') : Kq H w w' := (Kq.refl H w).new h
theorem path_is (b o H fr : Nat) (ls : List Nat) (G : Gph) (K : Nat → ByteArray) (f : ByteArray) (B A C : Nat → Bool) (w : World) (ok : G.ok) (hls : ls ≠ []) (hle : ls.length ≤ 35) (hlt : ∀ y ∈ ls, y < G.n) (hne : b ≠ H) (hr : rea G.e A C 5 (lastL ls) = true) (HG : Hid (Wy w b o G K f B)) (HL : Hid (Ls w H ls fr)) :
   Calls Tryz.prog 120 #[.pointer (some ⟨b, o, none⟩), .pointer (some ⟨H, 0, none⟩), .agg (six A), .agg (six C)] w fun e w' => e = .returned (.tuple #[]) ∧ ∃ ex, PthOk G.e A C (lastL ls) ex ∧ Ls w' H (ls ++ ex) fr ∧ Kq H w w' := by
 have hgl := HG.out.lt
 have hHl := HL.out.lt
 have hn6 := HG.out.n6
 have HA0 : Hid (Arr ((w.alloc (.cells (six A) 65)).alloc (.cells (six C) 65)) w.heap.size 6 A) := (arr_new w A 65).alloc _
 have HC0 : Hid (Arr ((w.alloc (.cells (six A) 65)).alloc (.cells (six C) 65)) (w.heap.size + 1) 6 C) := arr_at _ _ 65 _ (by simp)
 have HK0 : Hid (Kq H w ((w.alloc (.cells (six A) 65)).alloc (.cells (six C) 65))) := ((Kq.refl H w).alloc _).alloc _
 have HL0 : Hid (Ls ((w.alloc (.cells (six A) 65)).alloc (.cells (six C) 65)) H ls fr) := (HL.out.alloc _).alloc _
 have HRE := fun (m : Nat) (hm : m <= 5) W (h : Hid (Wy W b o G K f B)) => reachIn_is b o m G K f B A C W hm h
 have HP0 : Hid (PthAt G.e A C (lastL ls) 5 []) := PthAt.start hr
 have HLT : Hid (∀ y ∈ ls, y < G.n) := hlt
 have HOK : Hid (G.ok) := ok
 have HLS : Hid (ls ≠ []) := hls
 have e1 : w.heap.size ≠ H := by omega
 have e2 : w.heap.size + 1 ≠ H := by omega
 clear hr hlt ok hls
 go_enter Tryz.func120, Tryz.ntmps120
 go_wp2_with fail
 go_loopw [8] (fun q wr => ∃ (k : Nat) (ex : List Nat), k <= 5 ∧ q = .int .i64 k ∧ Hid (PthAt G.e A C (lastL ls) k ex) ∧ Hid (Ls wr H (ls ++ ex) fr) ∧ Hid (Kq H w wr) ∧ Hid (Arr wr w.heap.size 6 A) ∧ Hid (Arr wr (w.heap.size + 1) 6 C)) (fun q _ => (intOf q).toNat)
 case atStart => exact ⟨5, [], by omega, rfl, HP0, by rw [List.append_nil]; exact HL0, HK0, HA0, HC0⟩
 case round =>
   clear HA0 HC0 HK0 HL0 HP0
   obtain ⟨k, ex, hk, rfl, HP, HLr, HKr, HA, HC⟩ := hrel
   by_cases h0 : k = 0
   · subst h0
     go_wp2_with fail
     exact bodyPost_end (v := .tuple #[]) (by simp [results, Tryz.results120, go_sem]) rfl ⟨rfl, ex, HP.out.fin, HLr.out, HKr.out⟩
   · obtain ⟨j, rfl⟩ : ∃ j, k = j + 1 := ⟨k - 1, by omega⟩
     have wj : IntKind.i64.wrap ((j : Int) + 1 - 1) = (j : Int) := by rw [show (j : Int) + 1 - 1 = (j : Int) from by omega]; exact wrap_small _ (by omega) (by omega)
     have hj0 : (0 : Int) < (j : Int) + 1 := by omega
     have HGr : Hid (Wy wr b o G K f B) := HG.out.kq HKr.out hne
     have hHr := HLr.out.lt
     have hwr : w.heap.size + 1 < wr.heap.size := HC.out.lt
     have HREj := HRE j (by omega)
     obtain ⟨D, hD⟩ : ∃ D, D = rea G.e A C j := ⟨_, rfl⟩
     have HDE : Hid (D = rea G.e A C j) := hD
     rw [<- hD] at HREj
     clear hD
     have hnil : ls ++ ex ≠ [] := by simp [HLS.out]
     have HEN : Hid (endp (lastL ls) ex = lastL (ls ++ ex)) := (lastL_app ls ex HLS.out).symm
     have hxl : lastL (ls ++ ex) < G.n := by
       have hp := List.length_pos_iff.2 hnil
       unfold lastL
       refine getD_lt (fun y hy => ?_) (by omega)
       rcases List.mem_append.1 hy with hy | hy
       · exact HLT.out y hy
       · exact wk_lt HOK.out ex _ HP.out.wk y hy
     obtain ⟨x, hx⟩ : ∃ x, x = lastL (ls ++ ex) := ⟨_, rfl⟩
     have HLA := fun W (h : Hid (Ls W H (ls ++ ex) fr)) => last_is H fr (ls ++ ex) W hnil h
     rw [<- hx] at HLA hxl HEN
     clear hx
     have x6 : x < 6 := by omega
     have x0 : (0 : Int) <= (x : Int) := by omega
     have x1 : (x : Int) < 6 := by omega
     obtain ⟨y, hy⟩ : ∃ y, D x = y := ⟨_, rfl⟩
     have HDX : Hid (D x = y) := hy
     clear hy
     have hlen : (ls ++ ex).length < 40 := by have := HP.out.le; rw [List.length_append]; omega
     cases y with
     | true =>
       go_wp2_with (first
         | (refine loadS (by rfl) _ (by rfl) w.heap.size (by rfl) A HA.out ?_)
         | (refine loadS (by rfl) _ (by rfl) (w.heap.size + 1) (by rfl) C HC.out ?_)
         | (go_at_call 126; refine (HREj _ HGr).mono ?_; rintro e w1 ⟨rfl, hb1⟩)
         | (refine storeS (by rfl) _ _ (by rfl) w1.heap.size (fun _ => false) D (by rfl) (by rfl) (arr_zero w1 65) ?_; intro w3 hb3 hz3 hk3 HL3
            have hb13 : Below wr.heap.size wr w3 := Below.to hb1 (((Below.refl _ _).alloc (Nat.le_refl _) _).trans hb3)
            have HL3r : Hid (Ls w3 H (ls ++ ex) fr) := HLr.out.below hb13 hHr
            have HN3 : Hid (Arr w3 w1.heap.size 6 D) := HL3
            have hw1 : wr.heap.size <= w1.heap.size := hb1.size
            clear HL3 hb3 hz3 hk3 hb1)
         | (go_at_call 122; refine (HLA _ HL3r).mono ?_; rintro e w4 ⟨rfl, hb4, hh4⟩
            have HL4 : Hid (Ls w4 H (ls ++ ex) fr) := HL3r.out.below hb4 HL3r.out.lt
            have HN4 : Hid (Arr w4 w1.heap.size 6 D) := HN3.out.below hb4 HN3.out.lt
            have hb14 : Below wr.heap.size wr w4 := Below.to hb13 hb4
            have cx : w4.cell? ⟨w1.heap.size, x, none⟩ = some (.bool true) := by have := HN4.out.c x x6; rw [HDX.out] at this; exact this
            have hw4 : w1.heap.size < w4.heap.size := HN4.out.lt
            clear hb4 hh4 hb13))
       go_roundw
       case rel => exact ⟨j, ex, by omega, rfl, HP.out.stay (by rw [<- HDE.out, HEN.out]; exact HDX.out), HL4, HKr.out.trans (Kq.ofBelow hb14), HA.out.below hb14 HA.out.lt, HC.out.below hb14 HC.out.lt⟩
       case measure => simp [intOf]
     | false =>
       have hah : ahd G.e D x = true := by
         have h1 := HP.out.en
         have h2 := HDX.out
         rw [HEN.out] at h1
         rw [HDE.out] at h2 ⊢
         exact (rea_up h1 h2).2
       have HNX := fun W (h : Hid (Wy W b o G K f B)) => nextIn_is b o x G K f B D x6 hah W h
       clear hah
       go_wp2_with (first
         | (refine loadS (by rfl) _ (by rfl) w.heap.size (by rfl) A HA.out ?_)
         | (refine loadS (by rfl) _ (by rfl) (w.heap.size + 1) (by rfl) C HC.out ?_)
         | (go_at_call 126; refine (HREj _ HGr).mono ?_; rintro e w1 ⟨rfl, hb1⟩)
         | (refine storeS (by rfl) _ _ (by rfl) w1.heap.size (fun _ => false) D (by rfl) (by rfl) (arr_zero w1 65) ?_; intro w3 hb3 hz3 hk3 HL3
            have hb13 : Below wr.heap.size wr w3 := Below.to hb1 (((Below.refl _ _).alloc (Nat.le_refl _) _).trans hb3)
            have HL3r : Hid (Ls w3 H (ls ++ ex) fr) := HLr.out.below hb13 hHr
            have HN3 : Hid (Arr w3 w1.heap.size 6 D) := HL3
            have hw1 : wr.heap.size <= w1.heap.size := hb1.size
            clear HL3 hb3 hz3 hk3 hb1)
         | (go_at_call 122; refine (HLA _ HL3r).mono ?_; rintro e w4 ⟨rfl, hb4, hh4⟩
            have HL4 : Hid (Ls w4 H (ls ++ ex) fr) := HL3r.out.below hb4 HL3r.out.lt
            have HN4 : Hid (Arr w4 w1.heap.size 6 D) := HN3.out.below hb4 HN3.out.lt
            have hb14 : Below wr.heap.size wr w4 := Below.to hb13 hb4
            have cx : w4.cell? ⟨w1.heap.size, x, none⟩ = some (.bool false) := by have := HN4.out.c x x6; rw [HDX.out] at this; exact this
            have hw4 : w1.heap.size < w4.heap.size := HN4.out.lt
            clear hb4 hh4 hb13)
         | (refine loadS (by rfl) _ (by rfl) w1.heap.size (by rfl) D HN4.out ?_)
         | (go_at_call 116; refine (HNX _ (HGr.out.below hb14 HGr.out.lt)).mono ?_; rintro e w5 ⟨jj, rfl, hej, hDj, hb5⟩
            have hb15 : Below wr.heap.size wr w5 := Below.to hb14 hb5
            have HL5 : Hid (Ls w5 H (ls ++ ex) fr) := HL4.out.below hb5 HL4.out.lt
            have HEJ : Hid (G.e x jj = true) := hej
            have HDJ : Hid (D jj = true) := hDj
            clear hb5 hej hDj)
         | (go_at_call 118; refine (add_is H fr jj (ls ++ ex) _ hlen HL5).mono ?_; rintro e w6 ⟨rfl, hl6, hk6, hz6⟩))
       have HL6 : Hid (Ls w6 H (ls ++ (ex ++ [jj])) fr) := by rw [<- List.append_assoc]; exact hl6
       have hA5 : Arr w5 w.heap.size 6 A := HA.out.below hb15 HA.out.lt
       have hC5 : Arr w5 (w.heap.size + 1) 6 C := HC.out.below hb15 HC.out.lt
       go_roundw
       case rel => exact ⟨j, ex ++ [jj], by omega, rfl, HP.out.step (by rw [<- HDE.out, HEN.out]; exact HDX.out) (by rw [HEN.out]; exact HEJ.out) (by rw [<- HDE.out]; exact HDJ.out), HL6, (HKr.out.trans (Kq.ofBelow hb15)).trans hk6, hA5.kq hk6 e1, hC5.kq hk6 e2⟩
       case measure => simp [intOf]
theorem fs_len (f : ByteArray) : (fsOf f).length = f.size := by unfold fsOf; rw [List.length_map, tl_length]; rfl
theorem tl_take (f : ByteArray) (k : Nat) (h : k < f.size) : (tl f 0).take (k + 1) = (tl f 0).take k ++ [f[k]] := by
 have hl : k < (tl f 0).length := by rw [tl_length]; simpa using h
 rw [List.take_add_one, List.getElem?_eq_getElem hl]
 congr 1
theorem fs_take (f : ByteArray) (k : Nat) (h : k < f.size) : (fsOf f).take (k + 1) = (fsOf f).take k ++ [f[k].toNat] := by
 unfold fsOf
 rw [<- List.map_take, <- List.map_take, tl_take f k h]
 simp
theorem fs_mem (f : ByteArray) (k : Nat) (h : k < f.size) : f[k].toNat ∈ fsOf f := by
 have : f[k].toNat ∈ (fsOf f).take (k + 1) := by rw [fs_take f k h]; simp
 exact List.mem_of_mem_take this
theorem addRound_is (b o H fr : Nat) (ls : List Nat) (G : Gph) (K : Nat → ByteArray) (f : ByteArray) (B S : Nat → Bool) (w : World) (ok : G.ok) (hls : ls ≠ []) (hf : f.size ≤ 2) (hle : ls.length ≤ 25) (hlt : ∀ y ∈ ls, y < G.n) (hne : b ≠ H) (hr : rnd G (fsOf f) (stp G S 6) (lastL ls) = true) (HG : Hid (Wy w b o G K f B)) (HL : Hid (Ls w H ls fr)) :
   Calls Tryz.prog 131 #[.pointer (some ⟨b, o, none⟩), .pointer (some ⟨H, 0, none⟩), .agg (bools 36 (flat6 (stp G S 6))).toArray] w fun e w' => e = .returned (.tuple #[]) ∧
     ∃ ex ey, RndAt G (ardP (stp G S 6) (lastL ls)) ls ex (fsOf f) f.size ∧ PthOk G.e (ardP (stp G S 6) (lastL ls)) (fun d => ardP (stp G S 6) (lastL ls) d && ahd G.e (fun j => decide (j = lastL ls)) d) (lastL (ls ++ ex)) ey ∧ Ls w' H (ls ++ (ex ++ ey)) (ls.length - 1) ∧ Kq H w w' := by
 have hgl := HG.out.lt
 have hHl := HL.out.lt
 have hn6 := HG.out.n6
 have hlp := List.length_pos_iff.2 hls
 have hxl : lastL ls < G.n := by unfold lastL; exact getD_lt hlt (by omega)
 have HSELF : Hid (ardP (stp G S 6) (lastL ls) (lastL ls) = true) := ard_self hr
 have HMARK : Hid (∀ x g, g ∈ fsOf f -> ardP (stp G S 6) (lastL ls) x = true -> rea G.e (ardP (stp G S 6) (lastL ls)) (fun d => ardP (stp G S 6) (lastL ls) d && G.m d g) 5 x = true) := fun x g hg hx => ard_mark ok hn6 hr hg hx
 have HBACK : Hid (∀ x, ardP (stp G S 6) (lastL ls) x = true -> rea G.e (ardP (stp G S 6) (lastL ls)) (fun d => ardP (stp G S 6) (lastL ls) d && ahd G.e (fun j => decide (j = lastL ls)) d) 5 x = true) := fun x hx => ard_back ok hn6 hr hx
 have HB0 := mat_box w (stp G S 6) 156
 have HAR := fun W => aroundP_is (lastL ls) (stp G S 6) (by omega) W
 obtain ⟨M, hM⟩ : ∃ M, M = stp G S 6 := ⟨_, rfl⟩
 rw [<- hM] at HSELF HMARK HBACK HB0 HAR
 rw [<- hM]
 clear hM hr
 obtain ⟨L, hL⟩ : ∃ L, L = bools 36 (flat6 M) := ⟨_, rfl⟩
 rw [<- hL]
 rw [<- hL] at HB0 HAR
 have HRG : Hid (∀ W bb, Mat W bb M -> W.rangeAt bb 0 L) := by
   intro W bb h
   rw [hL]
   exact h.range
 have hl : L.length = 36 := by rw [hL, bools_len]
 clear hL
 have HB : Hid (Mat (w.alloc (.cells L.toArray 156)) w.heap.size M) := HB0
 clear HB0
 obtain ⟨R, hR⟩ : ∃ R, R = ardP M (lastL ls) := ⟨_, rfl⟩
 rw [<- hR] at HSELF HMARK HBACK HAR
 rw [<- hR]
 clear hR
 obtain ⟨c, hc⟩ : ∃ c, c = lastL ls := ⟨_, rfl⟩
 have HLA := fun W (h : Hid (Ls W H ls fr)) => last_is H fr ls W hls h
 have HCE : Hid (c = lastL ls) := hc
 rw [<- hc] at HSELF HBACK HAR HLA hxl
 rw [<- hc]
 clear hc
 have c6 : c < 6 := by omega
 have c0 : (0 : Int) <= (c : Int) := by omega
 have c1 : (c : Int) < 6 := by omega
 have hb1 : Below w.heap.size w (w.alloc (.cells L.toArray 156)) := (Below.refl _ _).alloc (Nat.le_refl _) _
 have HL0 : Hid (Ls (w.alloc (.cells L.toArray 156)) H ls fr) := HL.out.alloc _
 have HLT : Hid (∀ y ∈ ls, y < G.n) := hlt
 have HOK : Hid (G.ok) := ok
 have HLS : Hid (ls ≠ []) := hls
 obtain ⟨n, hn⟩ : ∃ n, ls.length = n + 1 := ⟨ls.length - 1, by omega⟩
 have HNE : Hid (ls.length = n + 1) := hn
 have hn25 : n <= 24 := by omega
 have wn : IntKind.i64.wrap ((n : Int) + 1 - 1) = (n : Int) := by rw [show (n : Int) + 1 - 1 = (n : Int) from by omega]; exact wrap_small _ (by omega) (by omega)
 clear hlt ok hls hn hle hlp
 go_enter Tryz.func131, Tryz.ntmps131
 go_wp2_with (first
   | (go_at_call 122; refine (HLA _ HL0).mono ?_; rintro e w0 ⟨rfl, hb0, hh0⟩
      have HB2 : Hid (Mat w0 w.heap.size M) := HB.out.below hb0 HB.out.lt
      have HL2 : Hid (Ls w0 H ls fr) := HL0.out.below hb0 HL0.out.lt
      have hbel0 : Below w.heap.size w w0 := Below.to hb1 hb0
      clear hb0 hh0)
   | (refine loadT 156 36 Tryz.size156 Tryz.row156 (by rfl) _ (by rfl) w.heap.size (by rfl) L (HRG.out _ _ HB2.out) hl ?_)
   | (go_at_call 132; refine (HAR _).mono ?_; rintro e w1 ⟨rfl, hbw⟩)
   | (refine storeS (by rfl) _ _ (by rfl) w1.heap.size (fun _ => false) R (by rfl) (by rfl) (arr_zero w1 65) ?_; intro w3 hb3 hz3 hk3 HL3
      have hb13 : Below w0.heap.size w0 w3 := Below.to hbw (((Below.refl _ _).alloc (Nat.le_refl _) _).trans hb3)
      have HR3 : Hid (Arr w3 w1.heap.size 6 R) := HL3
      have HL3' : Hid (Ls w3 H ls fr) := HL2.out.below hb13 HL2.out.lt
      have hbel3 : Below w.heap.size w w3 := Below.to hbel0 hb13
      have q1 : w.heap.size <= w1.heap.size := Nat.le_trans hbel0.size hbw.size
      have cn3 : w3.cell? ⟨H, 40, none⟩ = some (.int .i64 ((n : Int) + 1)) := by have := HL3'.out.cn; rw [HNE.out] at this; exact this
      have cf3 := HL3'.out.cf
      have zf3 := HL3'.out.z 41 (by omega)
      clear HL3 hb3 hz3 hk3 hbw hb13))
 have hHw1 : w1.heap.size ≠ H := by omega
 have HLp : Hid (Ls (w3.setCell ⟨H, 41, none⟩ (.int .i64 (n : Int))) H ls n) := HL3'.out.loop n
 have HRp : Hid (Arr (w3.setCell ⟨H, 41, none⟩ (.int .i64 (n : Int))) w1.heap.size 6 R) := HR3.out.setOther _ (Ne.symm hHw1)
 have HKp : Hid (Kq H w (w3.setCell ⟨H, 41, none⟩ (.int .i64 (n : Int)))) := (Kq.ofBelow hbel3).setB _ _
 clear HL3' HR3 cn3 cf3 zf3 hbel3 HB HB2 HL0 HL2 hb1 hbel0
 go_loopw [8] (fun q wr => ∃ (k : Nat) (ex : List Nat), k <= f.size ∧ q = .int .i64 k ∧ Hid (RndAt G R ls ex ((fsOf f).take k) k) ∧ Hid (Ls wr H (ls ++ ex) n) ∧ Hid (Kq H w wr) ∧ Hid (Arr wr w1.heap.size 6 R)) (fun q _ => f.size - (intOf q).toNat)
 case atStart => exact ⟨0, [], by omega, rfl, by rw [List.take_zero]; exact RndAt.start (by rw [<- HCE.out]; exact HSELF.out), by rw [List.append_nil]; exact HLp, HKp, HRp⟩
 case round =>
   clear HLp HRp HKp
   obtain ⟨k, ex, hk, rfl, HP, HLr, HKr, HRr⟩ := hrel
   have HGr : Hid (Wy wr b o G K f B) := HG.out.kq HKr.out hne
   have cf := HGr.out.cf
   have hnil : ls ++ ex ≠ [] := by simp [HLS.out]
   have hlex : (ls ++ ex).length <= 35 := by have := HP.out.le; have := HNE.out; rw [List.length_append]; omega
   have hlt2 : ∀ y ∈ ls ++ ex, y < G.n := fun y hy => by
     rcases List.mem_append.1 hy with hy | hy
     · exact HLT.out y hy
     · exact wk_lt HOK.out ex _ HP.out.wk y hy
   by_cases hlt : k < f.size
   · have hCl := lasC_len (ls ++ ex) (ls ++ ex).length n
     have hrg := HLr.out.range
     obtain ⟨C, hC⟩ : ∃ C, C = lasC (ls ++ ex) (ls ++ ex).length n := ⟨_, rfl⟩
     rw [<- hC] at hCl hrg
     have HRL : Hid (wr.rangeAt H 0 C) := hrg
     have HAG := fun (x : Nat) W (h : Hid (Wy W b o G K f B)) => again_is b o n x (ls ++ ex) G K f B C hC W (by omega) (by have := HNE.out; rw [List.length_append]; omega) hlt2 h
     clear hC hrg
     have HAGk := HAG f[k].toNat
     have HBE := fun W (h : Hid (Wy W b o G K f B)) => bearing_P b o f[k].toNat G K f B W h
     have HTK : Hid ((fsOf f).take (k + 1) = (fsOf f).take k ++ [f[k].toNat]) := fs_take f k hlt
     have hrea := HMARK.out (lastL (ls ++ ex)) f[k].toNat (fs_mem f k hlt) HP.out.en
     have HEE : Hid ((fun d => R d && G.m d f[k].toNat) = fun d => R d && G.m d f[k].toNat) := rfl
     obtain ⟨D, hD⟩ : ∃ D, D = fun j => G.m j f[k].toNat := ⟨_, rfl⟩
     rw [<- hD] at HBE
     have HBO := fun W => bothP_is R D W
     obtain ⟨E, hE⟩ : ∃ E, E = fun j => R j && D j := ⟨_, rfl⟩
     rw [<- hE] at HBO
     have HED : Hid (E = fun d => R d && G.m d f[k].toNat) := by show _ = _; rw [hE, hD]
     clear hE hD HEE HAG
     have hrea2 : rea G.e R E 5 (lastL (ls ++ ex)) = true := by rw [HED.out]; exact hrea
     have HPA := fun W (h : Hid (Wy W b o G K f B)) (h2 : Hid (Ls W H (ls ++ ex) n)) => path_is b o H n (ls ++ ex) G K f B R E W HOK.out hnil hlex hlt2 hne hrea2 h h2
     clear hrea hrea2
     obtain ⟨y, hy⟩ : ∃ y, y = metL G (ls ++ ex) n f[k].toNat (ls ++ ex).length := ⟨_, rfl⟩
     have HY : Hid (metL G (ls ++ ex) (ls.length - 1) f[k].toNat (ls ++ ex).length = y) := by show _ = _; rw [hy, HNE.out]; rfl
     rw [<- hy] at HAGk
     clear hy
     have hwr1 : w1.heap.size < wr.heap.size := HRr.out.lt
     cases y with
     | true =>
       go_wp2_with (first
         | (refine loadT 166 42 Tryz.size166 Tryz.row166 (by rfl) _ (by rfl) H (by rfl) C HRL.out hCl ?_)
         | (go_at_call 133; refine (HAGk _ HGr).mono ?_; rintro e w2 ⟨rfl, hb2⟩))
       go_roundw
       case rel => exact ⟨k + 1, ex, by omega, by go_num, by rw [HTK.out]; exact HP.out.skip HY.out, HLr.out.below hb2 HLr.out.lt, HKr.out.trans (Kq.ofBelow hb2), HRr.out.below hb2 HRr.out.lt⟩
       case measure => simp [intOf]; omega
     | false =>
       go_wp2_with (first
         | (refine loadT 166 42 Tryz.size166 Tryz.row166 (by rfl) _ (by rfl) H (by rfl) C HRL.out hCl ?_)
         | (go_at_call 133; refine (HAGk _ HGr).mono ?_; rintro e w2 ⟨rfl, hb2⟩
            have HL2 : Hid (Ls w2 H (ls ++ ex) n) := HLr.out.below hb2 HLr.out.lt
            have HG2 : Hid (Wy w2 b o G K f B) := HGr.out.below hb2 HGr.out.lt
            have HR2 : Hid (Arr w2 w1.heap.size 6 R) := HRr.out.below hb2 HRr.out.lt
            have HK2 : Hid (Kq H w w2) := HKr.out.trans (Kq.ofBelow hb2)
            clear hb2))
       have HK : Hid (∀ w', Below w2.heap.size w2 w' -> (fun w' => (w'.cell? ⟨w1.heap.size, 0, none⟩ = some (.bool (R 0)) ∧ w'.cell? ⟨w1.heap.size, 1, none⟩ = some (.bool (R 1)) ∧ w'.cell? ⟨w1.heap.size, 2, none⟩ = some (.bool (R 2)) ∧ w'.cell? ⟨w1.heap.size, 3, none⟩ = some (.bool (R 3)) ∧ w'.cell? ⟨w1.heap.size, 4, none⟩ = some (.bool (R 4)) ∧ w'.cell? ⟨w1.heap.size, 5, none⟩ = some (.bool (R 5)))) w') := fun w' h => cells1 (HR2.out.below h HR2.out.lt)
       go_region_held3 (fun w' => (w'.cell? ⟨w1.heap.size, 0, none⟩ = some (.bool (R 0)) ∧ w'.cell? ⟨w1.heap.size, 1, none⟩ = some (.bool (R 1)) ∧ w'.cell? ⟨w1.heap.size, 2, none⟩ = some (.bool (R 2)) ∧ w'.cell? ⟨w1.heap.size, 3, none⟩ = some (.bool (R 3)) ∧ w'.cell? ⟨w1.heap.size, 4, none⟩ = some (.bool (R 4)) ∧ w'.cell? ⟨w1.heap.size, 5, none⟩ = some (.bool (R 5)))) (first
           | exact cells1 HR6.out
           | exact HK.out _ hc5
           | exact HK.out _ hc4
           | exact HK.out _ (Below.refl _ _).drew) (first
         | (go_at_call 109; refine (HBE _ (show Hid _ from HG2.out.drew)).mono ?_; rintro e w4 ⟨rfl, hb4⟩
            have hc4 : Below w2.heap.size w2 w4 := Below.dr hb4)
         | (go_at_call 105; refine (HBO _).mono ?_; rintro e w5 ⟨rfl, hb5⟩
            have hc5 : Below w2.heap.size w2 w5 := Below.to hc4 hb5)
         | (go_at_call 120; refine (HPA _ (show Hid _ from HG2.out.below hc5 HG2.out.lt) (show Hid _ from HL2.out.below hc5 HL2.out.lt)).mono ?_; rintro e w6 ⟨rfl, ey, hpo, hl6, hk6⟩
            have HR6 : Hid (Arr w6 w1.heap.size 6 R) := (HR2.out.below hc5 HR2.out.lt).kq hk6 hHw1
            have HPO : Hid (PthOk G.e R E (lastL (ls ++ ex)) ey) := hpo
            have HL6 : Hid (Ls w6 H (ls ++ ex ++ ey) n) := hl6
            have HK6 : Hid (Kq H w w6) := (HK2.out.trans (Kq.ofBelow hc5)).trans hk6
            clear hpo hl6 hk6))
       all_goals
         go_wp2_with fail
         go_roundw
         case rel => exact ⟨k + 1, ex ++ ey, by omega, by go_num, by rw [HTK.out]; exact HP.out.more HLS.out (by rw [<- HED.out]; exact HPO.out), by rw [<- List.append_assoc]; exact HL6, HK6, HR6⟩
         case measure => simp [intOf]; omega
   · obtain rfl : k = f.size := by omega
     have HPF : Hid (RndAt G R ls ex (fsOf f) f.size) := by have := HP.out; rw [show (fsOf f).take f.size = fsOf f from by rw [<- fs_len f, List.take_length]] at this; exact this
     have hrea := HBACK.out (lastL (ls ++ ex)) HP.out.en
     have HAH := fun W (h : Hid (Wy W b o G K f B)) => aheadP_is b o G K f B (fun j => decide (j = c)) W h
     obtain ⟨Z, hZ⟩ : ∃ Z, Z = fun j => decide (j = c) := ⟨_, rfl⟩
     have HZE : Hid (Z = fun j => decide (j = c)) := hZ
     rw [<- hZ] at HAH hrea
     clear hZ
     obtain ⟨D, hD⟩ : ∃ D, D = ahd G.e Z := ⟨_, rfl⟩
     have HDE : Hid (D = ahd G.e Z) := hD
     rw [<- hD] at HAH hrea
     clear hD
     have HBO := fun W => bothP_is R D W
     obtain ⟨E, hE⟩ : ∃ E, E = fun j => R j && D j := ⟨_, rfl⟩
     have HEE : Hid (E = fun j => R j && D j) := hE
     rw [<- hE] at HBO hrea
     clear hE
     have HPA := fun W (h : Hid (Wy W b o G K f B)) (h2 : Hid (Ls W H (ls ++ ex) n)) => path_is b o H n (ls ++ ex) G K f B R E W HOK.out hnil hlex hlt2 hne hrea h h2
     clear hrea
     have hHr : H < wr.heap.size := HLr.out.lt
     have hwr1 : w1.heap.size < wr.heap.size := HRr.out.lt
     have cst : (wr.alloc (.cells #[.bool false, .bool false, .bool false, .bool false, .bool false, .bool false] 65)).cell? ⟨wr.heap.size, c, none⟩ = some (.bool false) := (arr_zero wr 65).c c c6
     have zst : (wr.alloc (.cells #[.bool false, .bool false, .bool false, .bool false, .bool false, .bool false] 65)).frozen? ⟨wr.heap.size, c, none⟩ = false := (arr_zero wr 65).z c c6
     have hA0 : Arr (wr.alloc (.cells ([.bool false, .bool false, .bool false, .bool false, .bool false, .bool false].set c (.bool true)).toArray 65)) wr.heap.size 6 Z := by
       rw [HZE.out]
       refine Arr.of_block (heap_alloc_new wr _) fun j hj => ?_
       have h1 : ([.bool false, .bool false, .bool false, .bool false, .bool false, .bool false].set c (.bool true) : List Value)[j]? = some (.bool (decide (j = c))) := by
         rw [List.getElem?_set]
         by_cases e : c = j
         · subst e
           rw [if_pos rfl, if_pos (by simpa using c6)]
           simp
         · rw [if_neg e, show decide (j = c) = false from by simp; omega]
           have : j = 0 ∨ j = 1 ∨ j = 2 ∨ j = 3 ∨ j = 4 ∨ j = 5 := by omega
           rcases this with rfl | rfl | rfl | rfl | rfl | rfl <;> rfl
       simpa using h1
     have hR0 : Arr (wr.alloc (.cells ([.bool false, .bool false, .bool false, .bool false, .bool false, .bool false].set c (.bool true)).toArray 65)) w1.heap.size 6 R := HRr.out.alloc _
     have hL0 : Ls (wr.alloc (.cells ([.bool false, .bool false, .bool false, .bool false, .bool false, .bool false].set c (.bool true)).toArray 65)) H (ls ++ ex) n := HLr.out.alloc _
     have hb0 : Below wr.heap.size wr (wr.alloc (.cells ([.bool false, .bool false, .bool false, .bool false, .bool false, .bool false].set c (.bool true)).toArray 65)) := (Below.refl _ _).alloc (Nat.le_refl _) _
     go_wp2_with fail
     generalize wr.alloc (.cells ([.bool false, .bool false, .bool false, .bool false, .bool false, .bool false].set c (.bool true)).toArray 65) = w2 at hA0 hR0 hL0 hb0 ⊢
     have HA2 : Hid (Arr w2 wr.heap.size 6 Z) := hA0
     have HR2 : Hid (Arr w2 w1.heap.size 6 R) := hR0
     have HL2 : Hid (Ls w2 H (ls ++ ex) n) := hL0
     have HG2 : Hid (Wy w2 b o G K f B) := HGr.out.below hb0 HGr.out.lt
     have HK2 : Hid (Kq H w w2) := HKr.out.trans (Kq.ofBelow hb0)
     clear hA0 hR0 hL0 hb0 cst zst
     have hzH : wr.heap.size ≠ H := by omega
     have HK : Hid (∀ w', Below w2.heap.size w2 w' -> (fun w' => (w'.cell? ⟨w1.heap.size, 0, none⟩ = some (.bool (R 0)) ∧ w'.cell? ⟨w1.heap.size, 1, none⟩ = some (.bool (R 1)) ∧ w'.cell? ⟨w1.heap.size, 2, none⟩ = some (.bool (R 2)) ∧ w'.cell? ⟨w1.heap.size, 3, none⟩ = some (.bool (R 3)) ∧ w'.cell? ⟨w1.heap.size, 4, none⟩ = some (.bool (R 4)) ∧ w'.cell? ⟨w1.heap.size, 5, none⟩ = some (.bool (R 5))) ∧ (w'.cell? ⟨wr.heap.size, 0, none⟩ = some (.bool (Z 0)) ∧ w'.cell? ⟨wr.heap.size, 1, none⟩ = some (.bool (Z 1)) ∧ w'.cell? ⟨wr.heap.size, 2, none⟩ = some (.bool (Z 2)) ∧ w'.cell? ⟨wr.heap.size, 3, none⟩ = some (.bool (Z 3)) ∧ w'.cell? ⟨wr.heap.size, 4, none⟩ = some (.bool (Z 4)) ∧ w'.cell? ⟨wr.heap.size, 5, none⟩ = some (.bool (Z 5)))) w') := fun w' h => ⟨cells1 (HR2.out.below h HR2.out.lt), cells1 (HA2.out.below h HA2.out.lt)⟩
     go_region_held3 (fun w' => (w'.cell? ⟨w1.heap.size, 0, none⟩ = some (.bool (R 0)) ∧ w'.cell? ⟨w1.heap.size, 1, none⟩ = some (.bool (R 1)) ∧ w'.cell? ⟨w1.heap.size, 2, none⟩ = some (.bool (R 2)) ∧ w'.cell? ⟨w1.heap.size, 3, none⟩ = some (.bool (R 3)) ∧ w'.cell? ⟨w1.heap.size, 4, none⟩ = some (.bool (R 4)) ∧ w'.cell? ⟨w1.heap.size, 5, none⟩ = some (.bool (R 5))) ∧ (w'.cell? ⟨wr.heap.size, 0, none⟩ = some (.bool (Z 0)) ∧ w'.cell? ⟨wr.heap.size, 1, none⟩ = some (.bool (Z 1)) ∧ w'.cell? ⟨wr.heap.size, 2, none⟩ = some (.bool (Z 2)) ∧ w'.cell? ⟨wr.heap.size, 3, none⟩ = some (.bool (Z 3)) ∧ w'.cell? ⟨wr.heap.size, 4, none⟩ = some (.bool (Z 4)) ∧ w'.cell? ⟨wr.heap.size, 5, none⟩ = some (.bool (Z 5)))) (first
         | exact ⟨cells1 HR6.out, cells1 HA6.out⟩
         | exact HK.out _ hc5
         | exact HK.out _ hc4
         | exact HK.out _ (Below.refl _ _).drew) (first
       | (go_at_call 128; refine (HAH _ (show Hid _ from HG2.out.drew)).mono ?_; rintro e w4 ⟨rfl, hb4⟩
          have hc4 : Below w2.heap.size w2 w4 := Below.dr hb4)
       | (go_at_call 105; refine (HBO _).mono ?_; rintro e w5 ⟨rfl, hb5⟩
          have hc5 : Below w2.heap.size w2 w5 := Below.to hc4 hb5)
       | (go_at_call 120; refine (HPA _ (show Hid _ from HG2.out.below hc5 HG2.out.lt) (show Hid _ from HL2.out.below hc5 HL2.out.lt)).mono ?_; rintro e w6 ⟨rfl, ey, hpo, hl6, hk6⟩
          have HR6 : Hid (Arr w6 w1.heap.size 6 R) := (HR2.out.below hc5 HR2.out.lt).kq hk6 hHw1
          have HA6 : Hid (Arr w6 wr.heap.size 6 Z) := (HA2.out.below hc5 HA2.out.lt).kq hk6 hzH
          have HPO : Hid (PthOk G.e R E (lastL (ls ++ ex)) ey) := hpo
          have HL6 : Hid (Ls w6 H (ls ++ ex ++ ey) n) := hl6
          have HK6 : Hid (Kq H w w6) := (HK2.out.trans (Kq.ofBelow hc5)).trans hk6
          clear hpo hl6 hk6))
     all_goals
       go_wp2_with fail
       refine bodyPost_end (v := .tuple #[]) (by simp [results, Tryz.results131, go_sem]) rfl ⟨rfl, ex, ey, HPF.out, ?_, ?_, HK6.out⟩
       · have := HPO.out
         rw [HEE.out, HDE.out, HZE.out] at this
         exact this
       · rw [<- List.append_assoc, show ls.length - 1 = n from by have := HNE.out; omega]
         exact HL6.out
theorem fairEnd_is (b o H fr : Nat) (ls : List Nat) (G : Gph) (K : Nat → ByteArray) (f : ByteArray) (B S : Nat → Bool) (w : World) (ok : G.ok) (hls : ls ≠ []) (hf : f.size ≤ 2) (hle : ls.length ≤ 20) (hlt : ∀ y ∈ ls, y < G.n) (hne : b ≠ H) (hs : stayP G (fsOf f) S (lastL ls) = true) (HG : Hid (Wy w b o G K f B)) (HL : Hid (Ls w H ls fr)) :
   Calls Tryz.prog 123 #[.pointer (some ⟨b, o, none⟩), .pointer (some ⟨H, 0, none⟩), .agg (six S)] w fun e w' => e = .returned (.tuple #[]) ∧ ∃ ex fr', EndOk G (fsOf f) S ls ex fr' ∧ Ls w' H (ls ++ ex) fr' ∧ Kq H w w' := by
 have hgl := HG.out.lt
 have hHl := HL.out.lt
 have hn6 := HG.out.n6
 have HA0 : Hid (Arr (w.alloc (.cells (six S) 65)) w.heap.size 6 S) := arr_new w S 65
 have hb0 : Below w.heap.size w (w.alloc (.cells (six S) 65)) := (Below.refl _ _).alloc (Nat.le_refl _) _
 have HG0 : Hid (Wy _ b o G K f B) := HG.out.below hb0 hgl
 have HST := fun W (h : Hid (Wy W b o G K f B)) => stepsP_is b o G K f B S W h
 have hrea : rea G.e S (rnd G (fsOf f) (stp G S 6)) 5 (lastL ls) = true := hs
 have HAD := fun (e0 : List Nat) (g1 : ls ++ e0 ≠ []) (g2 : (ls ++ e0).length <= 25) (g3 : ∀ y ∈ ls ++ e0, y < G.n) (g4 : rnd G (fsOf f) (stp G S 6) (lastL (ls ++ e0)) = true) W (h : Hid (Wy W b o G K f B)) (h2 : Hid (Ls W H (ls ++ e0) fr)) => addRound_is b o H fr (ls ++ e0) G K f B S W ok g1 hf g2 g3 hne g4 h h2
 have HCL : Hid (∀ e0 ex ey, Wk G.e S (lastL ls) e0 -> e0.length <= 5 -> RndAt G (ardP (stp G S 6) (lastL (ls ++ e0))) (ls ++ e0) ex (fsOf f) f.size -> PthOk G.e (ardP (stp G S 6) (lastL (ls ++ e0))) (fun d => ardP (stp G S 6) (lastL (ls ++ e0)) d && ahd G.e (fun j => decide (j = lastL (ls ++ e0))) d) (lastL (ls ++ e0 ++ ex)) ey -> rnd G (fsOf f) (stp G S 6) (lastL (ls ++ e0)) = true -> EndOk G (fsOf f) S ls (e0 ++ (ex ++ ey)) ((ls ++ e0).length - 1)) :=
   fun e0 ex ey g1 g2 g3 g4 g5 => RndAt.close ok hn6 hls g1 g2 g3 (by rw [fs_len]; exact Nat.le_refl _) g4 g5
 obtain ⟨M, hM⟩ : ∃ M, M = stp G S 6 := ⟨_, rfl⟩
 rw [<- hM] at HST hrea HAD HCL
 clear hM hs
 have HRO := fun W (h : Hid (Wy W b o G K f B)) => roundsP_is b o G K f B M (by omega) W h
 obtain ⟨F, hF⟩ : ∃ F, F = rnd G (fsOf f) M := ⟨_, rfl⟩
 have HFE : Hid (F = rnd G (fsOf f) M) := hF
 rw [<- hF] at hrea HRO
 clear hF
 have HPA := fun W (h : Hid (Wy W b o G K f B)) (h2 : Hid (Ls W H ls fr)) => path_is b o H fr ls G K f B S F W ok hls (by omega) hlt hne hrea h h2
 have HLT : Hid (∀ y ∈ ls, y < G.n) := hlt
 have HOK : Hid (G.ok) := ok
 have HLS : Hid (ls ≠ []) := hls
 clear hrea hlt ok hls
 go_enter Tryz.func123, Tryz.ntmps123
 go_wp2_with (first
   | (refine loadS (by rfl) _ (by rfl) w.heap.size (by rfl) S HA0.out ?_)
   | (go_at_call 102; refine (HST _ HG0).mono ?_; rintro e w1 ⟨rfl, hb1⟩)
   | (refine storeW (by rfl) _ _ (by rfl) w1.heap.size (fun _ _ => false) M (by rfl) (by rfl) (mat_new w1 156 _ rfl) ?_; intro w3 hb3 hz3 hk3 HM3))
 have HA1 : Hid (Arr w1 w.heap.size 6 S) := HA0.out.below hb1 HA0.out.lt
 have hbel1 : Below w.heap.size w w1 := Below.to hb0 hb1
 have hb13 : Below w1.heap.size w1 w3 := ((Below.refl _ _).alloc (Nat.le_refl _) _).trans hb3
 have HA3 : Hid (Arr w3 w.heap.size 6 S) := HA1.out.below hb13 HA1.out.lt
 have hbel3 : Below w.heap.size w w3 := Below.to hbel1 hb13
 have HM3' : Hid (Mat w3 w1.heap.size M) := HM3
 have q1 : w.heap.size < w1.heap.size := HA1.out.lt
 have HL3 : Hid (Ls w3 H ls fr) := HL.out.below hbel3 hHl
 have HG3 : Hid (Wy w3 b o G K f B) := HG.out.below hbel3 hgl
 have e1 : w.heap.size ≠ H := by omega
 have e2 : w1.heap.size ≠ H := by omega
 clear HM3 hb3 hz3 hk3 HA1 HA0 HG0 hb0 hb1 hb13 hbel1
 obtain ⟨L, hL⟩ : ∃ L, L = bools 36 (flat6 M) := ⟨_, rfl⟩
 rw [<- hL] at HRO HAD
 have HRG : Hid (∀ W bb, Mat W bb M -> W.rangeAt bb 0 L) := by
   intro W bb h
   rw [hL]
   exact h.range
 have hl : L.length = 36 := by rw [hL, bools_len]
 have HLE : Hid (L = bools 36 (flat6 M)) := hL
 clear hL
 refine wp_region_held_drew (S := (fun w' => (w'.cell? ⟨w.heap.size, 0, none⟩ = some (.bool (S 0)) ∧ w'.cell? ⟨w.heap.size, 1, none⟩ = some (.bool (S 1)) ∧ w'.cell? ⟨w.heap.size, 2, none⟩ = some (.bool (S 2)) ∧ w'.cell? ⟨w.heap.size, 3, none⟩ = some (.bool (S 3)) ∧ w'.cell? ⟨w.heap.size, 4, none⟩ = some (.bool (S 4)) ∧ w'.cell? ⟨w.heap.size, 5, none⟩ = some (.bool (S 5))) ∧ w'.rangeAt w1.heap.size 0 L)) (by kernel_rfl) ⟨cells1 HA3.out.drew, HRG.out _ _ HM3'.out.drew⟩ (fun hHeld => ?_)
 refine wpAnyH_take (i := 4) rfl (by kernel_rfl) (by kernel_rfl) (by kernel_rfl) (fun _ _ _ h => h) (yld36 w1.heap.size L hl (by rfl) _ (by rfl) (by rfl) (fun _ h => h.2)) hHeld ?_
 simp only [Act.put, List.setIfInBounds_toArray]
 refine wpAnyH_take (i := 0) (v := ?v1) rfl (by kernel_rfl) (by kernel_rfl) (by kernel_rfl) (fun _ _ _ h => h) (Or.inl ⟨by rfl, ?hy1⟩) hHeld ?rest1
 case hy1 =>
   intro W hW
   obtain ⟨⟨hW0, hW1, hW2, hW3, hW4, hW5⟩, hWr⟩ := hW
   go_simp
   try with_reducible rfl
 simp only [Act.put]
 refine wpAnyH_take (i := 1) (v := ?v2) rfl (by kernel_rfl) (by kernel_rfl) (by kernel_rfl) (fun _ _ _ h => h) (Or.inl ⟨by rfl, ?hy2⟩) hHeld ?rest2
 case hy2 =>
   intro W hW
   obtain ⟨⟨hW0, hW1, hW2, hW3, hW4, hW5⟩, hWr⟩ := hW
   go_simp
   try with_reducible rfl
 simp only [Act.put]
 refine wpAnyH_take (i := 2) (v := ?v3) rfl (by kernel_rfl) (by kernel_rfl) (by kernel_rfl) (fun _ _ _ h => h) (Or.inl ⟨by rfl, ?hy3⟩) hHeld ?rest3
 case hy3 =>
   intro W hW
   obtain ⟨⟨hW0, hW1, hW2, hW3, hW4, hW5⟩, hWr⟩ := hW
   go_simp
   try with_reducible rfl
 simp only [Act.put]
 refine wpAnyH_take (i := 3) (v := ?v4) rfl (by kernel_rfl) (by kernel_rfl) (by kernel_rfl) (fun _ _ _ h => h) (Or.inl ⟨by rfl, ?hy4⟩) hHeld ?rest4
 case hy4 =>
   intro W hW
   obtain ⟨⟨hW0, hW1, hW2, hW3, hW4, hW5⟩, hWr⟩ := hW
   go_simp
   try with_reducible rfl
 simp only [Act.put]
 refine wpAnyH_ready (rs := [5]) (by kernel_rfl) (by simp) ?_
 refine AllReadyH.cons rfl (fun KK hKK => ?_) AllReadyH.nil
 go_simp
 refine (HRO _ (show Hid _ from HG3.out.drew)).mono ?_
 rintro e w4 ⟨rfl, hb4⟩
 have hc4 : Below w3.heap.size w3 w4 := Below.dr hb4
 have HA4 : Hid (Arr w4 w.heap.size 6 S) := HA3.out.below hc4 HA3.out.lt
 have HM4 : Hid (Mat w4 w1.heap.size M) := HM3'.out.below hc4 HM3'.out.lt
 have HG4 : Hid (Wy w4 b o G K f B) := HG3.out.below hc4 HG3.out.lt
 have HL4 : Hid (Ls w4 H ls fr) := HL3.out.below hc4 HL3.out.lt
 have hbel4 : Below w.heap.size w w4 := Below.to hbel3 hc4
 clear hHeld
 go_wp2_with fail
 refine hKK.out _ _ ⟨cells1 HA4.out, HRG.out _ _ HM4.out⟩ (fun hHeld => ?_)
 clear hKK KK
 refine wpAnyH_ready (rs := [6]) (by kernel_rfl) (by simp) ?_
 refine AllReadyH.cons rfl (fun KK hKK => ?_) AllReadyH.nil
 go_simp
 refine (HPA _ HG4 HL4).mono ?_
 rintro e w5 ⟨rfl, e0, hpo, hl5, hk5⟩
 have HA5 : Hid (Arr w5 w.heap.size 6 S) := HA4.out.kq hk5 e1
 have HM5 : Hid (Mat w5 w1.heap.size M) := HM4.out.kq hk5 e2
 have HG5 : Hid (Wy w5 b o G K f B) := HG4.out.kq hk5 hne
 have HL5 : Hid (Ls w5 H (ls ++ e0) fr) := hl5
 have HK5 : Hid (Kq H w w5) := (Kq.ofBelow hbel4).trans hk5
 have HPO : Hid (PthOk G.e S F (lastL ls) e0) := hpo
 clear hHeld hpo hl5 hk5
 have g1 : ls ++ e0 ≠ [] := by simp [HLS.out]
 have g2 : (ls ++ e0).length <= 25 := by have := HPO.out.le; rw [List.length_append]; omega
 have g3 : ∀ y ∈ ls ++ e0, y < G.n := fun y hy => by
   rcases List.mem_append.1 hy with hy | hy
   · exact HLT.out y hy
   · exact wk_lt HOK.out e0 _ HPO.out.wk y hy
 have g4 : rnd G (fsOf f) M (lastL (ls ++ e0)) = true := by rw [lastL_app _ _ HLS.out, <- HFE.out]; exact HPO.out.en
 have HG4' : Hid (rnd G (fsOf f) M (lastL (ls ++ e0)) = true) := g4
 have HADD := HAD e0 g1 g2 g3 g4
 clear g1 g2 g3 g4
 go_wp2_with fail
 refine hKK.out _ _ ⟨cells1 HA5.out, HRG.out _ _ HM5.out⟩ (fun hHeld => ?_)
 clear hKK KK
 refine wpAnyH_done (by kernel_rfl) ?_ _
 clear hHeld
 go_wp2_with (first
   | (refine loadT 156 36 Tryz.size156 Tryz.row156 (by rfl) _ (by rfl) w1.heap.size (by rfl) L (HRG.out _ _ HM5.out) hl ?_)
   | (go_at_call 131; refine (HADD _ HG5 HL5).mono ?_; rintro e w6 ⟨rfl, ex, ey, hra, hpt, hl6, hk6⟩))
 refine bodyPost_end (v := .tuple #[]) (by simp [results, Tryz.results123, go_sem]) rfl ⟨rfl, e0 ++ (ex ++ ey), (ls ++ e0).length - 1, HCL.out e0 ex ey HPO.out.wk HPO.out.le hra hpt HG4'.out, ?_, HK5.out.trans hk6⟩
 rw [<- List.append_assoc]
 exact hl6
end Go.Proofs.YtcfbfdjmcabnkabGreat
namespace Go.Proofs.YtcfbfdjmcabnkabGreat
open Fw
open Go.Deep (BT)
set_option linter.unusedVariables false
def bud : Fm -> Nat
 | .nil => 1
 | .node sg _ _ l r => if sg = 38 ∨ sg = 43 then bud l + bud r + 1 else if sg = 88 then bud l + 50 else if sg = 85 then 40 * (bud l + 1) + bud r + 51 else if sg = 82 then 40 * (bud r + 1) + bud l + 51 else 1
theorem bud_and {wy : Nat} {u : Unit} {l r : Fm} : bud (.node 38 wy u l r) = bud l + bud r + 1 := rfl
theorem bud_or {wy : Nat} {u : Unit} {l r : Fm} : bud (.node 43 wy u l r) = bud l + bud r + 1 := rfl
theorem bud_x {wy : Nat} {u : Unit} {l r : Fm} : bud (.node 88 wy u l r) = bud l + 50 := rfl
theorem bud_u {wy : Nat} {u : Unit} {l r : Fm} : bud (.node 85 wy u l r) = 40 * (bud l + 1) + bud r + 51 := rfl
theorem bud_r {wy : Nat} {u : Unit} {l r : Fm} : bud (.node 82 wy u l r) = 40 * (bud r + 1) + bud l + 51 := rfl
theorem bud_leaf {sg wy : Nat} {u : Unit} {l r : Fm} (h : sg ≠ 38 ∧ sg ≠ 43 ∧ sg ≠ 88 ∧ sg ≠ 85 ∧ sg ≠ 82) : bud (.node sg wy u l r) = 1 := by
 unfold bud
 rw [if_neg (by omega), if_neg (by omega), if_neg (by omega), if_neg (by omega)]
theorem bud_len : ∀ (t : Fm), shw t -> bud t <= 100 ^ nst t * wt t := by
 intro t
 induction t with
 | nil => intro h; simp [shw] at h
 | node sg wy u l r ihl ihr =>
   intro hw
   have pos : ∀ m, 1 <= 100 ^ m := fun m => Nat.pow_pos (by omega)
   have up : ∀ {a m A n : Nat}, a <= 100 ^ m * A -> m <= n -> a <= 100 ^ n * A := fun h1 h2 => Nat.le_trans h1 (Nat.mul_le_mul_right _ (Nat.pow_le_pow_right (by omega) h2))
   unfold shw at hw
   rw [nst]
   obtain ⟨m, hm⟩ : ∃ m, m = max (nst l) (nst r) := ⟨_, rfl⟩
   rw [<- hm]
   have hml : nst l <= m := by rw [hm]; exact Nat.le_max_left _ _
   have hmr : nst r <= m := by rw [hm]; exact Nat.le_max_right _ _
   clear hm
   obtain ⟨M, hM⟩ : ∃ M, M = 100 ^ m := ⟨_, rfl⟩
   have hM1 : 1 <= M := by rw [hM]; exact pos m
   have hnm : ∀ {a A : Nat}, a <= M * A -> a <= 100 ^ ((if wy = 0 then 0 else 1) + m) * A := fun h1 => up (by rw [<- hM]; exact h1) (by omega)
   by_cases h33 : sg = 33
   · subst h33
     refine hnm ?_
     rw [bud_leaf (by omega), show wt (.node 33 wy u l r) = 1 from rfl]
     omega
   by_cases hb : sg = 38 ∨ sg = 43
   · rw [if_neg h33, if_pos hb] at hw
     have h1 := up (ihl hw.1) hml
     have h2 := up (ihr hw.2) hmr
     rw [<- hM] at h1 h2
     refine hnm ?_
     rw [wt, if_neg h33, if_pos hb, Nat.mul_add, Nat.mul_add, bud, if_pos hb]
     omega
   by_cases hx : sg = 88
   · subst hx
     rw [if_neg h33, if_neg hb, if_pos rfl] at hw
     obtain ⟨hw0, hwl⟩ := hw
     have h1 := up (ihl hwl) hml
     rw [<- hM] at h1
     rw [bud_x, show wt (.node 88 wy u l r) = wt l + 2 from rfl, if_neg (by omega), Nat.pow_add, <- hM, Nat.pow_one, Nat.mul_add, Nat.mul_assoc]
     omega
   by_cases hur : sg = 85 ∨ sg = 82
   · rw [if_neg h33, if_neg hb, if_neg hx, if_pos hur] at hw
     obtain ⟨hw0, hwl, hwr⟩ := hw
     have h1 := up (ihl hwl) hml
     have h2 := up (ihr hwr) hmr
     rw [<- hM] at h1 h2
     have e : wt (.node sg wy u l r) = wt l + wt r + 4 := by rw [wt, if_neg h33, if_neg hb, if_neg hx, if_pos hur]
     rw [e, if_neg (by omega), Nat.pow_add, <- hM, Nat.pow_one, Nat.mul_add, Nat.mul_add, Nat.mul_assoc, Nat.mul_assoc]
     rcases hur with rfl | rfl
     · rw [bud_u]; omega
     · rw [bud_r]; omega
   · refine hnm ?_
     rw [bud_leaf (by omega), show wt (.node sg wy u l r) = 1 from by rw [wt, if_neg h33, if_neg hb, if_neg hx, if_neg hur]]
     omega
theorem bud_max {g f s : ByteArray} {n : Int} (h : lat g f s n = 0) : bud (pushT (treeOf s) false) <= 30000000 := by
 obtain ⟨h0, hn1, hn2, hA⟩ := lat_zeroU h
 obtain ⟨hg, hs, hck, hfo, hfr⟩ := flt_zero h0
 obtain ⟨ht, hgd⟩ := frm_zero hfr
 have hz := size_of ht
 have h1 := bud_len _ (lat_shw h)
 have h2 := wt_push _ hgd false
 have h3 := (pushT_is _ hgd false).2.2
 rw [h3] at h1
 have h5 : 100 ^ nst (treeOf s) <= 100 ^ 3 := Nat.pow_le_pow_right (by omega) (frm_nest hfr)
 have h6 : 100 ^ nst (treeOf s) * wt (pushT (treeOf s) false) <= 100 ^ 3 * 30 := Nat.mul_le_mul h5 (by omega)
 have h7 : (100 : Nat) ^ 3 * 30 = 30000000 := by decide
 omega
theorem comT_snoc (c : List UInt8) : ∀ (cs : List (List UInt8)), comT (cs ++ [c]) = comT cs ++ 44 :: c
 | [] => by simp [comT]
 | d :: r => by simp [comT, comT_snoc c r]
structure Plcs (G : Gph) (fs : List Nat) (t : Fm) (ls : List Nat) (n : Nat) (cs : List (List UInt8)) : Prop where
 len : cs.length = n
 at' : ∀ j (h : j < cs.length), Crt G fs t (ls.getD j 0) cs[j]
theorem Plcs.nil (G : Gph) (fs : List Nat) (t : Fm) (ls : List Nat) : Plcs G fs t ls 0 [] := ⟨rfl, fun j h => by simp at h⟩
theorem Plcs.snoc {G : Gph} {fs : List Nat} {t : Fm} {ls : List Nat} {n : Nat} {cs : List (List UInt8)} {c : List UInt8} (h : Plcs G fs t ls n cs) (hc : Crt G fs t (ls.getD n 0) c) : Plcs G fs t ls (n + 1) (cs ++ [c]) := by
 refine ⟨by simp [h.len], fun j hj => ?_⟩
 rcases Nat.lt_or_ge j cs.length with h1 | h1
 · rw [List.getElem_append_left h1]; exact h.at' j h1
 · have : j = n := by have := h.len; simp at hj; omega
   subst this
   rw [List.getElem_append_right h1]
   simpa using hc
section
variable {G : Gph} {fs : List Nat} {wy : Nat} {u : Unit} {l r : Fm} {i : Nat}
theorem crt_and {a b : List UInt8} (ha : Crt G fs l i a) (hb : Crt G fs r i b) : Crt G fs (.node 38 wy u l r) i (38 :: (a ++ b)) := by
 unfold Crt; rw [if_pos rfl]; exact ⟨a, b, rfl, ha, hb⟩
theorem crt_or1 {a : List UInt8} (ha : Crt G fs l i a) : Crt G fs (.node 43 wy u l r) i (60 :: a) := by
 unfold Crt; rw [if_neg (by omega), if_pos rfl]; exact .inl ⟨a, rfl, ha⟩
theorem crt_or2 {a : List UInt8} (ha : Crt G fs r i a) : Crt G fs (.node 43 wy u l r) i (62 :: a) := by
 unfold Crt; rw [if_neg (by omega), if_pos rfl]; exact .inr ⟨a, rfl, ha⟩
theorem crt_x {j : Nat} {ex : List Nat} {fr : Nat} {a : List UInt8} (hk : LasOk G fs i ([i, j] ++ ex) fr) (ha : Crt G fs l j a) : Crt G fs (.node 88 wy u l r) i (lasT ([i, j] ++ ex) fr ++ a) := by
 unfold Crt; rw [if_neg (by omega), if_neg (by omega), if_pos rfl]
 refine ⟨_, fr, a, hk, rfl, ?_⟩
 have : nxt ([i, j] ++ ex).length fr 0 = 1 := by unfold nxt; rw [if_neg (by simp)]
 rw [this]
 simpa using ha
theorem crt_u {ls ex : List Nat} {fr n : Nat} {cs : List (List UInt8)} {b : List UInt8} (hk : LasOk G fs i (ls ++ ex) fr) (hn : n + 1 = ls.length) (hc : Plcs G fs l ls n cs) (hb : Crt G fs r (lastL ls) b) : Crt G fs (.node 85 wy u l r) i (lasT (ls ++ ex) fr ++ (comT cs ++ 45 :: b)) := by
 unfold Crt; rw [if_neg (by omega), if_neg (by omega), if_neg (by omega), if_pos rfl]
 have hl := hc.len
 refine ⟨_, fr, cs, b, hk, by simp; omega, rfl, fun j hj => ?_, ?_⟩
 · have := hc.at' j hj
   rw [List.getD, List.getElem?_append_left (by omega)]
   simpa [List.getD] using this
 · rw [hl, List.getD, List.getElem?_append_left (by omega)]
   unfold lastL at hb
   rw [show ls.length - 1 = n from by omega] at hb
   simpa [List.getD] using hb
theorem crt_r1 {ls : List Nat} {fr : Nat} {cs : List (List UInt8)} (hk : LasOk G fs i ls fr) (hc : Plcs G fs r ls ls.length cs) : Crt G fs (.node 82 wy u l r) i (lasT ls fr ++ (comT cs ++ [111])) := by
 unfold Crt; rw [if_neg (by omega), if_neg (by omega), if_neg (by omega), if_neg (by omega), if_pos rfl]
 exact ⟨ls, fr, cs, hk, hc.at', .inl ⟨hc.len, rfl⟩⟩
theorem crt_r2 {ls ex : List Nat} {fr : Nat} {cs : List (List UInt8)} {b : List UInt8} (hk : LasOk G fs i (ls ++ ex) fr) (h0 : ls ≠ []) (hc : Plcs G fs r ls ls.length cs) (hb : Crt G fs l (lastL ls) b) : Crt G fs (.node 82 wy u l r) i (lasT (ls ++ ex) fr ++ (comT cs ++ 45 :: b)) := by
 unfold Crt; rw [if_neg (by omega), if_neg (by omega), if_neg (by omega), if_neg (by omega), if_pos rfl]
 have hl := hc.len
 have hp := List.length_pos_iff.2 h0
 refine ⟨_, fr, cs, hk, fun j hj => ?_, .inr ⟨by omega, by simp; omega, b, rfl, ?_⟩⟩
 · have := hc.at' j hj
   rw [List.getD, List.getElem?_append_left (by omega)]
   simpa [List.getD] using this
 · rw [hl, List.getD, List.getElem?_append_left (by omega)]
   unfold lastL at hb
   simpa [List.getD] using hb
theorem crt_leaf {sg : Nat} (h : sg ≠ 38 ∧ sg ≠ 43 ∧ sg ≠ 88 ∧ sg ≠ 85 ∧ sg ≠ 82) (hs : soB G (.node sg wy u l r) i = true) : Crt G fs (.node sg wy u l r) i [46] := by
 unfold Crt; rw [if_neg h.1, if_neg h.2.1, if_neg h.2.2.1, if_neg h.2.2.2.1, if_neg h.2.2.2.2]
 exact ⟨rfl, hs⟩
end
def lasP (ls : List Nat) (fr k : Nat) : List UInt8 := if k <= fr then digT (ls.take k) else digT (ls.take fr) ++ 40 :: digT ((ls.take k).drop fr)
theorem lasP_zero (ls : List Nat) (fr : Nat) : lasP ls fr 0 = [] := by simp [lasP, digT]
theorem lasP_len (ls : List Nat) (fr k : Nat) : (lasP ls fr k).length <= k + 1 := by
 unfold lasP
 split
 · simp [digT]; omega
 · simp [digT]; omega
theorem lasP_at {ls : List Nat} {k : Nat} (hk : k < ls.length) : lasP ls k (k + 1) = lasP ls k k ++ [40] ++ [b8 (48 + ls.getD k 0)] := by
 unfold lasP
 rw [if_neg (by omega), if_pos (Nat.le_refl _)]
 have : (ls.take (k + 1)).drop k = [ls.getD k 0] := by
   rw [List.take_add_one, List.drop_append_of_le_length (by simp; omega)]
   simp [List.getElem?_eq_getElem hk, List.getD]
 rw [this]
 simp [digT]
theorem take_get {ls : List Nat} {k : Nat} (hk : k < ls.length) : ls.take (k + 1) = ls.take k ++ [ls.getD k 0] := by
 rw [List.take_add_one]; simp [List.getElem?_eq_getElem hk, List.getD]
theorem lasP_off {ls : List Nat} {fr k : Nat} (hk : k < ls.length) (h : k ≠ fr) : lasP ls fr (k + 1) = lasP ls fr k ++ [b8 (48 + ls.getD k 0)] := by
 unfold lasP
 rcases Nat.lt_or_ge k fr with h1 | h1
 · rw [if_pos (by omega), if_pos (by omega), take_get hk]
   simp [digT]
 · rw [if_neg (by omega), if_neg (by omega), take_get hk, List.drop_append_of_le_length (by simp; omega)]
   simp [digT]
theorem lasP_all {ls : List Nat} {fr : Nat} (h : fr < ls.length) : 91 :: (lasP ls fr ls.length ++ [41, 93]) = lasT ls fr := by
 unfold lasP lasT
 rw [if_neg (by omega), List.take_length]
 simp
end Go.Proofs.YtcfbfdjmcabnkabGreat
