import Derived.OwnWalk
import Derived.Laws.Tables
import Derived.Test.YtcfbfdjmcabnkaaG8
import Derived.Test.YtcfbfdjmcabnkaaG6
import Derived.Test.YtcfbfdjmcabnkaaGW
import Derived.Test.YtcfbfdjmcabnkaaG4
namespace Go.Proofs.Ytcfbfdjmcabnkaa
open Go.RowKit Fw
set_option linter.unusedVariables false

end Go.Proofs.Ytcfbfdjmcabnkaa

namespace Go.Proofs.Ytcfbfdjmcabnkaa
open Go.RowKit Fw
open Go.Deep (BT)
set_option linter.unusedVariables false

def fairOk (f : ByteArray) : Bool := decide (f.size ≤ 2) && decide (scan 122 97 (tl f 0) = f.size)

end Go.Proofs.Ytcfbfdjmcabnkaa

namespace Go.Proofs.Ytcfbfdjmcabnkaa
open Go.RowKit Fw
open Go.Deep (BT)
set_option linter.unusedVariables false

theorem below1 (w : World) (o : Obj) : Below w.heap.size w (w.alloc o) := (Below.refl _ _).alloc (Nat.le_refl _) _

end Go.Proofs.Ytcfbfdjmcabnkaa

namespace Go.Proofs.Ytcfbfdjmcabnkaa
open Go.RowKit Fw
open Go.Deep (BT)
set_option linter.unusedVariables false

end Go.Proofs.Ytcfbfdjmcabnkaa

namespace Go.Proofs.Ytcfbfdjmcabnkaa
open Go.RowKit Fw
open Go.Deep (BT)
set_option linter.unusedVariables false

end Go.Proofs.Ytcfbfdjmcabnkaa

namespace Go.Proofs.Ytcfbfdjmcabnkaa
open Go.RowKit Fw
open Go.Deep (BT)
set_option linter.unusedVariables false

end Go.Proofs.Ytcfbfdjmcabnkaa

namespace Go.Proofs.Ytcfbfdjmcabnkaa
open Go.RowKit Fw
open Go.Deep (BT)
set_option linter.unusedVariables false

end Go.Proofs.Ytcfbfdjmcabnkaa

namespace Go.Proofs.Ytcfbfdjmcabnkaa
open Go.RowKit Fw
open Go.Deep (BT)
set_option linter.unusedVariables false

theorem upto_and {n : Nat} {g : Nat → Bool} : (fun j => decide (j < n) && g j) = upto n g := by
  funext j; unfold upto; by_cases h : j < n <;> simp [h]
theorem upto_not {n : Nat} {g : Nat → Bool} : upto n (fun j => !(upto n g j)) = fun j => decide (j < n) && !(g j) := by
  rw [upto_and]
  exact upto_congr fun j hj => by rw [upto_lt hj]
theorem upto_upto {n : Nat} {g : Nat → Bool} : upto n (upto n g) = upto n g := upto_congr fun j hj => upto_lt hj

theorem someX_any (G : Gph) (fs : List Nat) (X Y Z : Nat → Bool) : someB G fs 88 X Y = someB G fs 88 X Z := by
  funext i; simp [someB]

end Go.Proofs.Ytcfbfdjmcabnkaa

namespace Go.Proofs.Ytcfbfdjmcabnkaa
open Go.RowKit Fw
set_option linter.unusedVariables false

/-- the graph of a text -/
def gphOf (s : ByteArray) : Gph where
  n := (run s 6 0).2.2.length
  e := mat s (run s 6 0).2.2
  m := fun i c => (mrk s (run s 6 0).2.2 i).data.toList.any fun d => d.toNat == c

/-- a graph in the making -/
structure Gq (w : World) (gb n : Nat) (M : Nat → Nat → Bool) (mk : Nat → ByteArray) : Prop where
  lt : gb < w.heap.size
  cn : w.cell? ⟨gb, 0, none⟩ = some (.int .i64 (n : Int))
  ce : ∀ i j, i < 6 → j < 6 → w.cell? ⟨gb, 1 + i * 6 + j, none⟩ = some (.bool (M i j))
  cm : ∀ i, i < 6 → w.cell? ⟨gb, 37 + i, none⟩ = some (.string (mk i))
  fz : ∀ o, o < 43 → w.frozen? ⟨gb, o, none⟩ = false

theorem Gq.edge {w : World} {gb n : Nat} {M : Nat → Nat → Bool} {mk : Nat → ByteArray} (h : Gq w gb n M mk) (i d : Nat) (hi : i < 6) (hd : d < 6) : Gq (w.setCell ⟨gb, 1 + i * 6 + d, none⟩ (.bool true)) gb n (fun x y => M x y || (x == i && y == d)) mk := by
  refine ⟨by simpa using h.lt, ?_, ?_, ?_, ?_⟩
  · rw [cell_otherS (addrS (by omega))]; exact h.cn
  · intro x y hx hy
    by_cases e : x = i ∧ y = d
    · obtain ⟨rfl, rfl⟩ := e
      rw [cell_sameS (h.ce x y hx hy)]
      simp
    · rw [cell_otherS (addrS (by omega)), h.ce x y hx hy]
      have : (x == i && y == d) = false := by
        rw [Bool.eq_false_iff]
        intro hc
        simp only [Bool.and_eq_true, beq_iff_eq] at hc
        exact e hc
      rw [this, Bool.or_false]
  · intro x hx
    rw [cell_otherS (addrS (by omega))]
    exact h.cm x hx
  · intro o ho
    rw [World.frozen?_setCell]
    exact h.fz o ho

theorem Gq.mark {w : World} {gb n : Nat} {M : Nat → Nat → Bool} {mk : Nat → ByteArray} (h : Gq w gb n M mk) (i : Nat) (hi : i < 6) (t : ByteArray) : Gq (w.setCell ⟨gb, 37 + i, none⟩ (.string t)) gb n M (fun x => if x = i then t else mk x) := by
  refine ⟨by simpa using h.lt, ?_, ?_, ?_, ?_⟩
  · rw [cell_otherS (addrS (by omega))]; exact h.cn
  · intro x y hx hy
    rw [cell_otherS (addrS (by omega))]
    exact h.ce x y hx hy
  · intro x hx
    by_cases e : x = i
    · subst e
      rw [cell_sameS (h.cm x hx)]
      simp
    · rw [cell_otherS (addrS (by omega)), h.cm x hx, if_neg e]
  · intro o ho
    rw [World.frozen?_setCell]
    exact h.fz o ho

theorem Gq.drew {w : World} {gb n : Nat} {M : Nat → Nat → Bool} {mk : Nat → ByteArray} (h : Gq w gb n M mk) : Gq w.drew gb n M mk := ⟨h.lt, h.cn, h.ce, h.cm, h.fz⟩
theorem Gq.congr {w : World} {gb n : Nat} {M : Nat → Nat → Bool} {mk mk' : Nat → ByteArray} (h : Gq w gb n M mk) (e : ∀ i, i < 6 → mk i = mk' i) : Gq w gb n M mk' := ⟨h.lt, h.cn, h.ce, fun i hi => by rw [← e i hi]; exact h.cm i hi, h.fz⟩

def cells43 (n : Int) : Array Value := (Value.int .i64 n :: (List.replicate 36 (.bool false) ++ List.replicate 6 (.string ByteArray.empty))).toArray
theorem flat_get0 (s : ByteArray) (p : Nat) : ∀ (acc : List Nat) (i : Nat), acc[i]? = some p → (flat s acc)[i * 2]? = some (.string (s.extract p (arrow s p))) := by
  intro acc
  induction acc with
  | nil => intro i h; simp at h
  | cons q r ih =>
    intro i h
    cases i with
    | zero =>
      simp at h
      subst h
      simp [flat, two]
    | succ i =>
      have h' := ih i (by simpa using h)
      have e : (i + 1) * 2 = (i * 2) + 2 := by omega
      rw [e]
      simpa [flat, two] using h'

theorem take_snoc {l : List Nat} {i p : Nat} (h : l[i]? = some p) : l.take i ++ [p] = l.take (i + 1) := by
  rw [List.take_add_one, h]; rfl

end Go.Proofs.Ytcfbfdjmcabnkaa

namespace Go.Proofs.Ytcfbfdjmcabnkaa
open Go.RowKit Fw
set_option linter.unusedVariables false

theorem mat_nil (s : ByteArray) : mat s [] = fun _ _ => false := by funext i j; simp [mat]

theorem mrk_step {s : ByteArray} {acc : List Nat} {i p : Nat} (h : acc[i]? = some p) (x : Nat) : (if x = i then s.extract p (arrow s p) else mrk s (acc.take i) x) = mrk s (acc.take (i + 1)) x := by
  obtain ⟨hlt, hp⟩ := List.getElem?_eq_some_iff.1 h
  by_cases e : x = i
  · subst e
    rw [if_pos rfl, mrk_some]
    rw [List.getElem?_take, if_pos (by omega)]
    exact h
  · rw [if_neg e]
    unfold mrk
    rw [List.getElem?_take, List.getElem?_take]
    by_cases h1 : x < i
    · rw [if_pos h1, if_pos (by omega)]
    · rw [if_neg h1, if_neg (by omega)]

end Go.Proofs.Ytcfbfdjmcabnkaa

namespace Go.Proofs.Ytcfbfdjmcabnkaa
open Go.RowKit Fw
open Go.Deep (BT)
set_option linter.unusedVariables false

/-- the errors of Solve -/
def flt (g f s : ByteArray) : Nat :=
  if 210 < g.size ∨ 30 < s.size then 1 else if (chk g).1 ≠ 0 then (chk g).1 else if fairOk f = false then 4 else (frm s).1

end Go.Proofs.Ytcfbfdjmcabnkaa

namespace Go.Proofs.Ytcfbfdjmcabnkaa
open Go.RowKit Fw
open Go.Deep (BT)
set_option linter.unusedVariables false

theorem firstBad_none {s : ByteArray} {n : Nat} : ∀ (l : List Nat) (i : Nat), firstBad s n i l = none → ∀ p ∈ l, astB s n p = false := by
  intro l
  induction l with
  | nil => intro i _ p hp; simp at hp
  | cons q r ih =>
    intro i h p hp
    unfold firstBad at h
    by_cases hq : astB s n q = true
    · rw [if_pos hq] at h; cases h
    · rw [if_neg hq] at h
      simp only [List.mem_cons] at hp
      rcases hp with rfl | hp
      · simpa using hq
      · exact ih _ h p hp

theorem chk_zero {s : ByteArray} (h : (chk s).1 = 0) : (run s 6 0).1 = true ∧ firstBad s (run s 6 0).2.2.length 0 (run s 6 0).2.2 = none := by
  unfold chk at h
  split at h
  · rename_i hr
    refine ⟨hr, ?_⟩
    split at h
    · simp at h
    · assumption
  · simp at h

theorem gph_ok {s : ByteArray} (h : (chk s).1 = 0) : (gphOf s).ok := by
  obtain ⟨_, hf⟩ := chk_zero h
  intro i j he
  show i < (run s 6 0).2.2.length ∧ j < (run s 6 0).2.2.length
  have he' : mat s (run s 6 0).2.2 i j = true := he
  unfold mat at he'
  split at he'
  · rename_i p hp
    obtain ⟨hlt, _⟩ := List.getElem?_eq_some_iff.1 hp
    refine ⟨hlt, ?_⟩
    have ha := firstBad_none _ _ hf p (List.mem_of_getElem? hp)
    simp only [List.any_eq_true, List.mem_range, beq_iff_eq] at he'
    obtain ⟨k, hk, hb⟩ := he'
    rcases Nat.lt_or_ge j (run s 6 0).2.2.length with h1 | h1
    · exact h1
    · rw [astB_yes hk (by omega)] at ha
      cases ha
  · cases he'

theorem gm_of {s : ByteArray} {w : World} {gb : Nat} (hs : s.size ≤ 210) (h : Gq w gb (run s 6 0).2.2.length (mat s (run s 6 0).2.2) (mrk s (run s 6 0).2.2)) : Gm w gb (gphOf s) (mrk s (run s 6 0).2.2) := by
  refine ⟨h.lt, (run_starts s 6 0 (by omega)).1, h.cn, h.ce, h.cm, fun i => mrk_size s _ i hs, fun i c _ => ?_⟩
  show (List.any _ _) = true ↔ _
  simp only [List.any_eq_true, beq_iff_eq]

/-- the answer of Solve, of a graph, marks and a formula -/
def bitsU (h : Nat → Bool) (k : Nat) : List UInt8 := (List.range k).map fun j => if h j = true then 49 else 48
theorem bitsU_zero (h : Nat → Bool) : bitsU h 0 = [] := rfl
theorem bitsU_succ (h : Nat → Bool) (k : Nat) : bitsU h (k + 1) = bitsU h k ++ [if h k = true then 49 else 48] := by simp [bitsU, List.range_succ]
theorem bitsU_len (h : Nat → Bool) (k : Nat) : (bitsU h k).length = k := by simp [bitsU]

/-- the tree of a text -/
def treeOf (s : ByteArray) : Fm := (pt (s.size + 1) (tl s 0)).2.2

def sol (g f s : ByteArray) : ByteArray × Nat :=
  if flt g f s = 0 then (bs (bitsU (holdsB (gphOf g) (fsOf f) (treeOf s)) (gphOf g).n), 0) else (ByteArray.empty, flt g f s)

theorem frm_zero {s : ByteArray} (h : (frm s).1 = 0) : s.data.toList = txt (treeOf s) ∧ good (treeOf s) := by
  unfold frm at h
  split at h
  · rename_i hh
    obtain ⟨h1, h2⟩ := hh
    have hg := pt_sound (s.size + 1) (tl s 0) h1
    rw [h2, List.append_nil] at hg
    rw [← tl0]
    exact hg
  · simp at h

theorem flt_zero {g f s : ByteArray} (h : flt g f s = 0) : g.size ≤ 210 ∧ s.size ≤ 30 ∧ (chk g).1 = 0 ∧ fairOk f = true ∧ (frm s).1 = 0 := by
  unfold flt at h
  split at h
  · simp at h
  · rename_i h1
    split at h
    · rename_i h2; exact absurd h h2
    · rename_i h2
      split at h
      · simp at h
      · rename_i h3
        exact ⟨by omega, by omega, by simpa using h2, by simpa using h3, h⟩

end Go.Proofs.Ytcfbfdjmcabnkaa

