import Derived.Deep.Trees
/- THE PLAIN MATHEMATICS: texts as lists of bytes; reading a graph. Nothing of the dump. -/
namespace Go.Proofs.Ytcfbfdjmcabnkaa.Fw

/-- how many of the leading bytes rise, the first from lo on, each at most hi -/
def scan (hi : Nat) : Nat → List UInt8 → Nat
  | _, [] => 0
  | lo, c :: r => if lo ≤ c.toNat ∧ c.toNat ≤ hi then scan hi (c.toNat + 1) r + 1 else 0

/-- what is left of a text from a place on -/
def tl (s : ByteArray) (k : Nat) : List UInt8 := s.data.toList.drop k

theorem tl_cons (s : ByteArray) (k : Nat) (h : k < s.size) : tl s k = s[k] :: tl s (k + 1) := by
  unfold tl
  rw [List.drop_eq_getElem_cons (by simpa using h)]
  rfl

theorem tl_nil (s : ByteArray) (k : Nat) (h : s.size ≤ k) : tl s k = [] := by
  unfold tl
  exact List.drop_eq_nil_of_le (by simpa using h)

theorem scan_nil (hi lo : Nat) : scan hi lo [] = 0 := rfl

theorem scan_yes (s : ByteArray) (hi lo k : Nat) (h : k < s.size) (h1 : lo ≤ s[k].toNat) (h2 : s[k].toNat ≤ hi) : scan hi lo (tl s k) = scan hi (s[k].toNat + 1) (tl s (k + 1)) + 1 := by
  rw [tl_cons s k h]
  simp [scan, h1, h2]

theorem scan_no (s : ByteArray) (hi lo k : Nat) (h : k < s.size) (h1 : ¬ (lo ≤ s[k].toNat ∧ s[k].toNat ≤ hi)) : scan hi lo (tl s k) = 0 := by
  rw [tl_cons s k h]
  unfold scan
  rw [if_neg h1]

theorem scan_end (s : ByteArray) (hi lo k : Nat) (h : s.size ≤ k) : scan hi lo (tl s k) = 0 := by
  rw [tl_nil s k h]
  rfl

theorem scan_le (hi : Nat) (l : List UInt8) : ∀ lo, scan hi lo l ≤ l.length := by
  induction l with
  | nil => intro lo; exact Nat.le_refl _
  | cons c r ih =>
    intro lo
    unfold scan
    split
    · have := ih (c.toNat + 1); simp; omega
    · omega

theorem tl_length (s : ByteArray) (k : Nat) : (tl s k).length = s.size - k := by
  unfold tl
  simp

theorem scan_size (s : ByteArray) (hi lo k : Nat) (h : k ≤ s.size) : k + scan hi lo (tl s k) ≤ s.size := by
  have := scan_le hi (tl s k) lo
  rw [tl_length] at this
  omega

theorem tl_extract (s : ByteArray) (p : Nat) : tl (s.extract p s.size) 0 = tl s p := by
  unfold tl
  rw [ByteArray.data_extract, Array.toList_extract]
  show List.drop 0 ((s.data.toList.extract p s.data.size)) = _
  rw [List.drop_zero, List.extract_eq_take_drop]
  exact List.take_of_length_le (by simp)

/-- does the byte c stand at a place? -/
def isAt (s : ByteArray) (p c : Nat) : Bool := decide (∃ h : p < s.size, s[p].toNat = c)

theorem isAt_yes {s : ByteArray} {p c : Nat} (h : p < s.size) (hc : s[p].toNat = c) : isAt s p c = true := by simp [isAt, h, hc]
theorem isAt_no {s : ByteArray} {p c : Nat} (h : p < s.size) (hc : ¬ s[p].toNat = c) : isAt s p c = false := by simp [isAt, h, hc]
theorem isAt_end {s : ByteArray} {p c : Nat} (h : ¬ p < s.size) : isAt s p c = false := by simp [isAt, h]
theorem isAt_lt {s : ByteArray} {p c : Nat} (h : isAt s p c = true) : p < s.size := by
  simp only [isAt, decide_eq_true_eq] at h
  exact h.1

/-- where the marks of the state that begins at p end -/
def arrow (s : ByteArray) (p : Nat) : Nat := p + scan 122 97 (tl s p)
/-- where its next states end -/
def stop (s : ByteArray) (p : Nat) : Nat := arrow s p + 1 + scan 53 48 (tl s (arrow s p + 1))

theorem arrow_le {s : ByteArray} {p : Nat} (h : p ≤ s.size) : arrow s p ≤ s.size := scan_size s 122 97 p h
theorem le_arrow (s : ByteArray) (p : Nat) : p ≤ arrow s p := Nat.le_add_right _ _
theorem stop_le {s : ByteArray} {p : Nat} (h : arrow s p < s.size) : stop s p ≤ s.size := scan_size s 53 48 _ (by omega)
theorem lt_stop (s : ByteArray) (p : Nat) : arrow s p + 1 ≤ stop s p := Nat.le_add_right _ _

/-- n states at most, from p on: whether they are read; the place behind or at fault; where each begins -/
def run (s : ByteArray) : Nat → Nat → Bool × Nat × List Nat
  | 0, p => (false, p, [])
  | n + 1, p =>
    if isAt s (arrow s p) 62 = true then
      if isAt s (stop s p) 59 = true then
        if stop s p + 1 = s.size then (true, s.size, [p])
        else ((run s n (stop s p + 1)).1, (run s n (stop s p + 1)).2.1, p :: (run s n (stop s p + 1)).2.2)
      else (false, stop s p, [])
    else (false, arrow s p, [])

/-- what was read ahead of it, too -/
def cat (acc : List Nat) (r : Bool × Nat × List Nat) : Bool × Nat × List Nat := (r.1, r.2.1, acc ++ r.2.2)

/-- how far the reading has come: acc is read, p is the place behind it -/
def Inv (s : ByteArray) (acc : List Nat) (p : Nat) : Prop :=
  ((p < s.size ∨ acc = []) ∧ run s 6 0 = cat acc (run s (6 - acc.length) p)) ∨ (p = s.size ∧ acc ≠ [] ∧ run s 6 0 = (true, s.size, acc))

theorem inv_start (s : ByteArray) : Inv s [] 0 := .inl ⟨.inr rfl, by simp [cat]⟩

theorem inv_end {s : ByteArray} {acc : List Nat} {p : Nat} (h : Inv s acc p) (h1 : ¬ p < s.size) (h2 : acc ≠ []) : run s 6 0 = (true, s.size, acc) := by
  rcases h with ⟨h, _⟩ | ⟨_, _, h⟩
  · rcases h with h | h
    · exact absurd h h1
    · exact absurd h h2
  · exact h

theorem inv_run {s : ByteArray} {acc : List Nat} {p : Nat} (h : Inv s acc p) (h1 : p < s.size ∨ acc = []) : run s 6 0 = cat acc (run s (6 - acc.length) p) := by
  rcases h with ⟨_, h⟩ | ⟨h3, h4, _⟩
  · exact h
  · rcases h1 with h1 | h1
    · omega
    · exact absurd h1 h4

theorem inv_full {s : ByteArray} {acc : List Nat} {p : Nat} (h : Inv s acc p) (h1 : p < s.size ∨ acc = []) (h6 : acc.length = 6) : (run s 6 0).1 = false ∧ (run s 6 0).2.1 = p := by
  rw [inv_run h h1, h6]
  exact ⟨rfl, rfl⟩

theorem inv_arrow {s : ByteArray} {acc : List Nat} {p : Nat} (h : Inv s acc p) (h1 : p < s.size ∨ acc = []) (h6 : acc.length < 6) (hf : isAt s (arrow s p) 62 = false) : (run s 6 0).1 = false ∧ (run s 6 0).2.1 = arrow s p := by
  rw [inv_run h h1]
  obtain ⟨n, hn⟩ : ∃ n, 6 - acc.length = n + 1 := ⟨5 - acc.length, by omega⟩
  rw [hn]
  simp [cat, run, hf]

theorem inv_stop {s : ByteArray} {acc : List Nat} {p : Nat} (h : Inv s acc p) (h1 : p < s.size ∨ acc = []) (h6 : acc.length < 6) (ha : isAt s (arrow s p) 62 = true) (hf : isAt s (stop s p) 59 = false) : (run s 6 0).1 = false ∧ (run s 6 0).2.1 = stop s p := by
  rw [inv_run h h1]
  obtain ⟨n, hn⟩ : ∃ n, 6 - acc.length = n + 1 := ⟨5 - acc.length, by omega⟩
  rw [hn]
  simp [cat, run, ha, hf]

theorem inv_next {s : ByteArray} {acc : List Nat} {p : Nat} (h : Inv s acc p) (h1 : p < s.size ∨ acc = []) (h6 : acc.length < 6) (ha : isAt s (arrow s p) 62 = true) (hf : isAt s (stop s p) 59 = true) : Inv s (acc ++ [p]) (stop s p + 1) := by
  have hr := inv_run h h1
  obtain ⟨n, hn⟩ : ∃ n, 6 - acc.length = n + 1 := ⟨5 - acc.length, by omega⟩
  have hlt := isAt_lt hf
  rw [hn] at hr
  by_cases he : stop s p + 1 = s.size
  · right
    refine ⟨he, by simp, ?_⟩
    rw [hr]
    simp [cat, run, ha, hf, he]
  · left
    refine ⟨.inl (by omega), ?_⟩
    have h5 : 6 - (acc ++ [p]).length = n := by simp; omega
    rw [hr, h5]
    simp [cat, run, ha, hf, he]

/-- the byte at a place -/
def byteAt (s : ByteArray) (k : Nat) : Nat := if h : k < s.size then s[k].toNat else 0

theorem byteAt_lt {s : ByteArray} {k : Nat} (h : k < s.size) : byteAt s k = s[k].toNat := by simp [byteAt, h]

/-- how many next states the state at p has; where they begin -/
def many (s : ByteArray) (p : Nat) : Nat := scan 53 48 (tl s (arrow s p + 1))

/-- has the state at p a next state from n on? -/
def astB (s : ByteArray) (n p : Nat) : Bool := (List.range (many s p)).any fun k => decide (n + 48 ≤ byteAt s (arrow s p + 1 + k))

/-- the first state that has -/
def firstBad (s : ByteArray) (n : Nat) : Nat → List Nat → Option Nat
  | _, [] => none
  | i, p :: r => if astB s n p = true then some i else firstBad s n (i + 1) r

/-- what P3 asks of a text of at most 210 bytes -/
def chk (s : ByteArray) : Nat × Nat :=
  if (run s 6 0).1 = true then
    match firstBad s (run s 6 0).2.2.length 0 (run s 6 0).2.2 with
    | some i => (3, i)
    | none => (0, 0)
  else (2, (run s 6 0).2.1)

theorem scan_range (hi : Nat) (l : List UInt8) : ∀ lo k, k < scan hi lo l → ∃ h : k < l.length, lo ≤ l[k].toNat ∧ l[k].toNat ≤ hi := by
  induction l with
  | nil => intro lo k hk; simp [scan] at hk
  | cons c r ih =>
    intro lo k hk
    unfold scan at hk
    split at hk
    · rename_i hc
      cases k with
      | zero => exact ⟨by simp, hc⟩
      | succ k =>
        obtain ⟨h, h1, h2⟩ := ih (c.toNat + 1) k (by omega)
        exact ⟨by simp; omega, by simp; omega, by simp; omega⟩
    · omega

theorem byte_range (s : ByteArray) (hi lo p k : Nat) (h : k < scan hi lo (tl s p)) : ∃ hp : p + k < s.size, lo ≤ s[p + k].toNat ∧ s[p + k].toNat ≤ hi := by
  obtain ⟨h1, h2, h3⟩ := scan_range hi (tl s p) lo k h
  have hl : p + k < s.size := by rw [tl_length] at h1; omega
  refine ⟨hl, ?_⟩
  have e : (tl s p)[k] = s[p + k] := by
    have h4 : (s.data.toList.drop p)[k]'h1 = s.data.toList[p + k]'(by simpa using hl) := List.getElem_drop
    exact h4
  rw [e] at h2 h3
  exact ⟨h2, h3⟩

theorem many_stop (s : ByteArray) (p : Nat) : arrow s p + 1 + many s p = stop s p := rfl

theorem astB_yes {s : ByteArray} {n p k : Nat} (hk : k < many s p) (h : n + 48 ≤ byteAt s (arrow s p + 1 + k)) : astB s n p = true := by
  simp only [astB, List.any_eq_true, List.mem_range, decide_eq_true_eq]
  exact ⟨k, hk, h⟩

theorem astB_no {s : ByteArray} {n p : Nat} (h : ∀ k, k < many s p → ¬ n + 48 ≤ byteAt s (arrow s p + 1 + k)) : astB s n p = false := by
  rw [Bool.eq_false_iff]
  intro hc
  simp only [astB, List.any_eq_true, List.mem_range, decide_eq_true_eq] at hc
  obtain ⟨k, hk, hx⟩ := hc
  exact h k hk hx

theorem firstBad_yes {s : ByteArray} {n i p : Nat} {l : List Nat} (hi : l[i]? = some p) (h : firstBad s n 0 l = firstBad s n i (l.drop i)) (hb : astB s n p = true) : firstBad s n 0 l = some i := by
  obtain ⟨hlt, hp⟩ := List.getElem?_eq_some_iff.1 hi
  rw [h, List.drop_eq_getElem_cons hlt, hp]
  simp [firstBad, hb]

theorem firstBad_step {s : ByteArray} {n i p : Nat} {l : List Nat} (hi : l[i]? = some p) (h : firstBad s n 0 l = firstBad s n i (l.drop i)) (hb : astB s n p = false) : firstBad s n 0 l = firstBad s n (i + 1) (l.drop (i + 1)) := by
  obtain ⟨hlt, hp⟩ := List.getElem?_eq_some_iff.1 hi
  rw [h, List.drop_eq_getElem_cons hlt, hp]
  simp [firstBad, hb]

theorem firstBad_end {s : ByteArray} {n i : Nat} {l : List Nat} (hi : l.length ≤ i) (h : firstBad s n 0 l = firstBad s n i (l.drop i)) : firstBad s n 0 l = none := by
  rw [h, List.drop_eq_nil_of_le hi]
  rfl

theorem chk_fail {s : ByteArray} (h : (run s 6 0).1 = false) : chk s = (2, (run s 6 0).2.1) := by simp [chk, h]
theorem chk_bad {s : ByteArray} {i : Nat} (h : (run s 6 0).1 = true) (hf : firstBad s (run s 6 0).2.2.length 0 (run s 6 0).2.2 = some i) : chk s = (3, i) := by simp [chk, h, hf]
theorem chk_good {s : ByteArray} (h : (run s 6 0).1 = true) (hf : firstBad s (run s 6 0).2.2.length 0 (run s 6 0).2.2 = none) : chk s = (0, 0) := by simp [chk, h, hf]

/-- the states begin inside the text, and are at most so many -/
theorem run_starts (s : ByteArray) : ∀ (n p : Nat), p ≤ s.size → (run s n p).2.2.length ≤ n ∧ ∀ q ∈ (run s n p).2.2, arrow s q < s.size ∧ stop s q < s.size := by
  intro n
  induction n with
  | zero => intro p hp; simp [run]
  | succ n ih =>
    intro p hp
    unfold run
    split
    · rename_i ha
      split
      · rename_i hb
        have h1 := isAt_lt ha
        have h2 := isAt_lt hb
        split
        · refine ⟨by simp, ?_⟩
          intro q hq
          simp at hq
          subst hq
          exact ⟨h1, h2⟩
        · obtain ⟨h3, h4⟩ := ih (stop s p + 1) (by omega)
          refine ⟨by simp; omega, ?_⟩
          intro q hq
          simp only [List.mem_cons] at hq
          rcases hq with rfl | hq
          · exact ⟨h1, h2⟩
          · exact h4 q hq
      · simp
    · simp

theorem extract_get (s : ByteArray) (a b k : Nat) (h : k < (s.extract a b).size) : (s.extract a b)[k].toNat = byteAt s (a + k) := by
  have h2 : a + k < s.size := by rw [ByteArray.size_extract] at h; omega
  rw [byteAt_lt h2, ByteArray.getElem_extract]

theorem extract_get' (s T : ByteArray) (a b : Nat) (hT : T = s.extract a b) (k : Nat) (h : k < T.size) : T[k].toNat = byteAt s (a + k) := by
  subst hT
  exact extract_get s a b k h

end Go.Proofs.Ytcfbfdjmcabnkaa.Fw

/- THE PLAIN MATHEMATICS OF FORMULAS: trees, their texts, reading, the stack of what must still come. Nothing of the dump. -/
namespace Go.Proofs.Ytcfbfdjmcabnkaa.Fw
open Go.Deep (BT)
set_option linter.unusedVariables false

/-- a formula: b: its sign; o: E or A ahead of it, or 0 -/
abbrev Fm := BT Unit

def isLet (c : Nat) : Bool := decide (97 ≤ c ∧ c ≤ 122)
def isAtom (c : Nat) : Bool := decide (c = 84 ∨ (97 ≤ c ∧ c ≤ 122))

def one (sg wy : Nat) (x : Bool × List UInt8 × Fm) : Bool × List UInt8 × Fm :=
  if x.1 = true then (true, x.2.1, .node sg wy () x.2.2 .nil) else (false, x.2.1, .nil)

/-- the sign between two parts, the second part, the bracket -/
def mid (f : List UInt8 → Bool × List UInt8 × Fm) (wy a b z : Nat) (t : Fm) : List UInt8 → Bool × List UInt8 × Fm
  | [] => (false, [], .nil)
  | d :: r =>
    if d.toNat = a ∨ d.toNat = b then
      if (f r).1 = true then
        match (f r).2.1 with
        | [] => (false, [], .nil)
        | e :: q => if e.toNat = z then (true, q, .node d.toNat wy () t (f r).2.2) else (false, e :: q, .nil)
      else (false, (f r).2.1, .nil)
    else (false, d :: r, .nil)

def two (f : List UInt8 → Bool × List UInt8 × Fm) (wy a b z : Nat) (l : List UInt8) : Bool × List UInt8 × Fm :=
  if (f l).1 = true then mid f wy a b z (f l).2.2 (f l).2.1 else (false, (f l).2.1, .nil)

def ways (f : List UInt8 → Bool × List UInt8 × Fm) (wy : Nat) : List UInt8 → Bool × List UInt8 × Fm
  | [] => (false, [], .nil)
  | d :: r => if d.toNat = 88 then one 88 wy (f r) else if d.toNat = 91 then two f wy 85 82 93 r else (false, d :: r, .nil)

/-- reading a formula: whether there is one; what is left behind it, or from the fault on; the formula -/
def pt : Nat → List UInt8 → Bool × List UInt8 × Fm
  | 0, l => (false, l, .nil)
  | _ + 1, [] => (false, [], .nil)
  | n + 1, c :: r =>
    if isAtom c.toNat = true then (true, r, .node c.toNat 0 () .nil .nil)
    else if c.toNat = 33 then one 33 0 (pt n r)
    else if c.toNat = 40 then two (pt n) 0 38 43 41 r
    else if c.toNat = 69 ∨ c.toNat = 65 then ways (pt n) c.toNat r
    else (false, c :: r, .nil)

def b8 (n : Nat) : UInt8 := UInt8.ofNat n

/-- its text -/
def txt : Fm → List UInt8
  | .nil => []
  | .node sg wy _ l r =>
    if sg = 33 then 33 :: txt l
    else if sg = 38 ∨ sg = 43 then 40 :: (txt l ++ b8 sg :: (txt r ++ [41]))
    else if sg = 88 then b8 wy :: 88 :: txt l
    else if sg = 85 ∨ sg = 82 then b8 wy :: 91 :: (txt l ++ b8 sg :: (txt r ++ [93]))
    else [b8 sg]

/-- is it a formula? -/
def good : Fm → Prop
  | .nil => False
  | .node sg wy _ l r =>
    if sg = 33 then wy = 0 ∧ good l ∧ r = .nil
    else if sg = 38 ∨ sg = 43 then wy = 0 ∧ good l ∧ good r
    else if sg = 88 then (wy = 69 ∨ wy = 65) ∧ good l ∧ r = .nil
    else if sg = 85 ∨ sg = 82 then (wy = 69 ∨ wy = 65) ∧ good l ∧ good r
    else isAtom sg = true ∧ wy = 0 ∧ l = .nil ∧ r = .nil

def nst : Fm → Nat
  | .nil => 0
  | .node _ wy _ l r => (if wy = 0 then 0 else 1) + max (nst l) (nst r)

theorem b8_toNat {c : UInt8} : b8 c.toNat = c := by
  simp [b8]

theorem lit_toNat {c : UInt8} {n : Nat} (h : c.toNat = n) : c = b8 n := by
  rw [← h, b8_toNat]

/-- the five shapes of a formula -/
theorem good_cases {t : Fm} (h : good t) :
    (∃ c, t = .node c 0 () .nil .nil ∧ isAtom c = true ∧ txt t = [b8 c]) ∨
    (∃ l, t = .node 33 0 () l .nil ∧ good l ∧ txt t = 33 :: txt l) ∨
    (∃ sg l r, t = .node sg 0 () l r ∧ (sg = 38 ∨ sg = 43) ∧ good l ∧ good r ∧ txt t = 40 :: (txt l ++ b8 sg :: (txt r ++ [41]))) ∨
    (∃ wy l, t = .node 88 wy () l .nil ∧ (wy = 69 ∨ wy = 65) ∧ good l ∧ txt t = b8 wy :: 88 :: txt l) ∨
    (∃ sg wy l r, t = .node sg wy () l r ∧ (sg = 85 ∨ sg = 82) ∧ (wy = 69 ∨ wy = 65) ∧ good l ∧ good r ∧ txt t = b8 wy :: 91 :: (txt l ++ b8 sg :: (txt r ++ [93]))) := by
  cases t with
  | nil => exact absurd h (by simp [good])
  | node sg wy u l r =>
    cases u
    unfold good at h
    split at h
    · rename_i e
      subst e
      obtain ⟨rfl, h2, rfl⟩ := h
      exact .inr (.inl ⟨l, rfl, h2, by simp [txt]⟩)
    · rename_i n1
      split at h
      · rename_i e
        obtain ⟨rfl, h2, h3⟩ := h
        refine .inr (.inr (.inl ⟨sg, l, r, rfl, e, h2, h3, ?_⟩))
        rw [txt, if_neg n1, if_pos e]
      · rename_i n2
        split at h
        · rename_i e
          subst e
          obtain ⟨h1, h2, rfl⟩ := h
          exact .inr (.inr (.inr (.inl ⟨wy, l, rfl, h1, h2, by simp [txt]⟩)))
        · rename_i n3
          split at h
          · rename_i e
            obtain ⟨h1, h2, h3⟩ := h
            refine .inr (.inr (.inr (.inr ⟨sg, wy, l, r, rfl, e, h1, h2, h3, ?_⟩)))
            rw [txt, if_neg n1, if_neg n2, if_neg n3, if_pos e]
          · rename_i n4
            obtain ⟨h1, rfl, rfl, rfl⟩ := h
            refine .inl ⟨sg, rfl, h1, ?_⟩
            rw [txt, if_neg n1, if_neg n2, if_neg n3, if_neg n4]

theorem good_one {sg wy : Nat} {l : Fm} (h : (sg = 33 ∧ wy = 0) ∨ (sg = 88 ∧ (wy = 69 ∨ wy = 65))) (hl : good l) : good (.node sg wy () l .nil) := by
  rcases h with ⟨rfl, rfl⟩ | ⟨rfl, h⟩
  · simp [good, hl]
  · simp [good, hl, h]

theorem good_two {sg wy : Nat} {l r : Fm} (h : ((sg = 38 ∨ sg = 43) ∧ wy = 0) ∨ ((sg = 85 ∨ sg = 82) ∧ (wy = 69 ∨ wy = 65))) (hl : good l) (hr : good r) : good (.node sg wy () l r) := by
  rcases h with ⟨rfl | rfl, rfl⟩ | ⟨rfl | rfl, h⟩ <;> simp [good, *]

theorem good_atom {c : Nat} (h : isAtom c = true) : good (.node c 0 () .nil .nil) := by
  have h' := h
  simp only [isAtom, decide_eq_true_eq] at h'
  rw [good, if_neg (by omega), if_neg (by omega), if_neg (by omega), if_neg (by omega)]
  exact ⟨h, rfl, rfl, rfl⟩

theorem txt_one33 (l : Fm) (wy : Nat) : txt (.node 33 wy () l .nil) = 33 :: txt l := by simp [txt]
theorem txt_one88 (l : Fm) (wy : Nat) : txt (.node 88 wy () l .nil) = b8 wy :: 88 :: txt l := by simp [txt]
theorem txt_bin {sg : Nat} (h : sg = 38 ∨ sg = 43) (wy : Nat) (l r : Fm) : txt (.node sg wy () l r) = 40 :: (txt l ++ b8 sg :: (txt r ++ [41])) := by
  rw [txt, if_neg (by omega), if_pos h]
theorem txt_way {sg : Nat} (h : sg = 85 ∨ sg = 82) (wy : Nat) (l r : Fm) : txt (.node sg wy () l r) = b8 wy :: 91 :: (txt l ++ b8 sg :: (txt r ++ [93])) := by
  rw [txt, if_neg (by omega), if_neg (by omega), if_neg (by omega), if_pos h]
theorem txt_atom {c : Nat} (h : isAtom c = true) : txt (.node c 0 () .nil .nil) = [b8 c] := by
  simp only [isAtom, decide_eq_true_eq] at h
  rw [txt, if_neg (by omega), if_neg (by omega), if_neg (by omega), if_neg (by omega)]

/-- what reading with f finds: texts of formulas -/
def Sound (f : List UInt8 → Bool × List UInt8 × Fm) : Prop := ∀ l, (f l).1 = true → l = txt (f l).2.2 ++ (f l).2.1 ∧ good (f l).2.2

theorem mid_sound {f : List UInt8 → Bool × List UInt8 × Fm} (hf : Sound f) {wy a b z : Nat} {t : Fm} {l : List UInt8} (h : (mid f wy a b z t l).1 = true) :
    ∃ d r q, l = d :: r ∧ (d.toNat = a ∨ d.toNat = b) ∧ (f r).1 = true ∧ (f r).2.1 = b8 z :: q ∧ mid f wy a b z t l = (true, q, .node d.toNat wy () t (f r).2.2) := by
  cases l with
  | nil => simp [mid] at h
  | cons d r =>
    dsimp only [mid] at h ⊢
    split at h
    · rename_i hd
      split at h
      · rename_i hr
        split at h
        · simp at h
        · rename_i e q heq
          split at h
          · rename_i he
            refine ⟨d, r, q, rfl, hd, hr, by rw [heq, lit_toNat he], ?_⟩
            rw [if_pos hd, if_pos hr, if_pos he]
          · simp at h
      · simp at h
    · simp at h

theorem two_sound {f : List UInt8 → Bool × List UInt8 × Fm} (hf : Sound f) {wy a b z : Nat} {l : List UInt8} (h : (two f wy a b z l).1 = true) :
    ∃ d r q, (f l).1 = true ∧ (f l).2.1 = d :: r ∧ (d.toNat = a ∨ d.toNat = b) ∧ (f r).1 = true ∧ (f r).2.1 = b8 z :: q ∧ two f wy a b z l = (true, q, .node d.toNat wy () (f l).2.2 (f r).2.2) ∧
      l = txt (f l).2.2 ++ d :: (txt (f r).2.2 ++ b8 z :: q) ∧ good (f l).2.2 ∧ good (f r).2.2 := by
  unfold two at h ⊢
  split at h
  · rename_i hl
    obtain ⟨d, r, q, h1, h2, h3, h4, h5⟩ := mid_sound hf h
    refine ⟨d, r, q, hl, h1, h2, h3, h4, by rw [if_pos hl, h5], ?_, (hf l hl).2, (hf r h3).2⟩
    have e1 := (hf l hl).1
    have e2 := (hf r h3).1
    rw [h1] at e1
    rw [h4] at e2
    rw [← e2]
    exact e1
  · simp at h

theorem pt_sound : ∀ n, Sound (pt n) := by
  intro n
  induction n with
  | zero => intro l h; simp [pt] at h
  | succ n ih =>
    intro l h
    cases l with
    | nil => simp [pt] at h
    | cons c r =>
      unfold pt at h ⊢
      split at h
      · rename_i h1
        rw [if_pos h1]
        refine ⟨?_, good_atom h1⟩
        rw [txt_atom h1, b8_toNat]
        rfl
      · rename_i n1
        rw [if_neg n1]
        split at h
        · rename_i h2
          rw [if_pos h2]
          unfold one at h ⊢
          split at h
          · rename_i hr
            rw [if_pos hr]
            obtain ⟨e1, e2⟩ := ih r hr
            refine ⟨?_, good_one (.inl ⟨rfl, rfl⟩) e2⟩
            show c :: r = txt (.node 33 0 () (pt n r).2.2 .nil) ++ (pt n r).2.1
            rw [txt_one33, lit_toNat h2, List.cons_append, ← e1]
            rfl
          · simp at h
        · rename_i n2
          rw [if_neg n2]
          split at h
          · rename_i h3
            rw [if_pos h3]
            obtain ⟨d, r2, q, _, _, hd, _, _, hx, hl, g1, g2⟩ := two_sound ih h
            rw [hx]
            have hs : d.toNat = 38 ∨ d.toNat = 43 := hd
            refine ⟨?_, good_two (.inl ⟨hs, rfl⟩) g1 g2⟩
            show c :: r = txt (.node d.toNat 0 () (pt n r).2.2 (pt n r2).2.2) ++ q
            rw [txt_bin hs, lit_toNat h3, b8_toNat]
            simp only [List.cons_append, List.append_assoc, List.nil_append]
            rw [show ((41 : UInt8) :: q) = b8 41 :: q from rfl, ← hl]
            rfl
          · rename_i n3
            rw [if_neg n3]
            split at h
            · rename_i h4
              rw [if_pos h4]
              cases r with
              | nil => simp [ways] at h
              | cons d r =>
                dsimp only [ways] at h ⊢
                split at h
                · rename_i h5
                  rw [if_pos h5]
                  unfold one at h ⊢
                  split at h
                  · rename_i hr
                    rw [if_pos hr]
                    obtain ⟨e1, e2⟩ := ih r hr
                    refine ⟨?_, good_one (.inr ⟨rfl, h4⟩) e2⟩
                    show c :: d :: r = txt (.node 88 c.toNat () (pt n r).2.2 .nil) ++ (pt n r).2.1
                    rw [txt_one88, lit_toNat h5, b8_toNat, List.cons_append, List.cons_append, ← e1]
                    rfl
                  · simp at h
                · rename_i n5
                  rw [if_neg n5]
                  split at h
                  · rename_i h6
                    rw [if_pos h6]
                    obtain ⟨e, r2, q, _, _, hd, _, _, hx, hl, g1, g2⟩ := two_sound ih h
                    rw [hx]
                    have hs : e.toNat = 85 ∨ e.toNat = 82 := hd
                    refine ⟨?_, good_two (.inr ⟨hs, h4⟩) g1 g2⟩
                    show c :: d :: r = txt (.node e.toNat c.toNat () (pt n r).2.2 (pt n r2).2.2) ++ q
                    rw [txt_way hs, lit_toNat h6, b8_toNat, b8_toNat]
                    simp only [List.cons_append, List.append_assoc, List.nil_append]
                    rw [show ((93 : UInt8) :: q) = b8 93 :: q from rfl, ← hl]
                    rfl
                  · simp at h
            · simp at h

/-- the stack (its last entry first) behind a byte that stands where its last entry must come -/
def fol (top : Nat) (st : List Nat) (c : Nat) : Option (List Nat) :=
  if top = 102 then
    if isAtom c = true then some st
    else if c = 33 then some (102 :: st)
    else if c = 40 then some (102 :: 111 :: 102 :: 41 :: st)
    else if c = 69 ∨ c = 65 then some (119 :: st)
    else none
  else if top = 111 then (if c = 38 ∨ c = 43 then some st else none)
  else if top = 117 then (if c = 85 ∨ c = 82 then some st else none)
  else if top = 119 then (if c = 91 then some (102 :: 117 :: 102 :: 93 :: st) else if c = 88 then some (102 :: st) else none)
  else (if c = top then some st else none)

/-- as far as a text goes with a stack: the stack then, and what is left -/
def auto : List Nat → List UInt8 → List Nat × List UInt8
  | st, [] => (st, [])
  | [], c :: r => ([], c :: r)
  | top :: st, c :: r =>
    match fol top st c.toNat with
    | none => (top :: st, c :: r)
    | some st' => auto st' r

theorem auto_nil (l : List UInt8) : auto [] l = ([], l) := by
  cases l <;> rfl

theorem auto_yes {top : Nat} {st st' : List Nat} {c : UInt8} {r : List UInt8} (h : fol top st c.toNat = some st') : auto (top :: st) (c :: r) = auto st' r := by
  rw [auto, h]
theorem auto_no {top : Nat} {st : List Nat} {c : UInt8} {r : List UInt8} (h : fol top st c.toNat = none) : auto (top :: st) (c :: r) = (top :: st, c :: r) := by
  rw [auto, h]
theorem auto_end (st : List Nat) : auto st [] = (st, []) := by
  cases st <;> rfl

theorem fol_atom {c : Nat} (st : List Nat) (h : isAtom c = true) : fol 102 st c = some st := by simp [fol, h]
theorem fol_not (st : List Nat) : fol 102 st 33 = some (102 :: st) := by simp [fol, isAtom]
theorem fol_open (st : List Nat) : fol 102 st 40 = some (102 :: 111 :: 102 :: 41 :: st) := by simp [fol, isAtom]
theorem fol_way {c : Nat} (st : List Nat) (h : c = 69 ∨ c = 65) : fol 102 st c = some (119 :: st) := by
  rcases h with rfl | rfl <;> simp [fol, isAtom]
theorem fol_bin {c : Nat} (st : List Nat) (h : c = 38 ∨ c = 43) : fol 111 st c = some st := by simp [fol, h]
theorem fol_ur {c : Nat} (st : List Nat) (h : c = 85 ∨ c = 82) : fol 117 st c = some st := by simp [fol, h]
theorem fol_x (st : List Nat) : fol 119 st 88 = some (102 :: st) := by simp [fol]
theorem fol_br (st : List Nat) : fol 119 st 91 = some (102 :: 117 :: 102 :: 93 :: st) := by simp [fol]
theorem fol_41 (st : List Nat) : fol 41 st 41 = some st := by simp [fol]
theorem fol_93 (st : List Nat) : fol 93 st 93 = some st := by simp [fol]

theorem isAtom_lt {c : Nat} (h : isAtom c = true) : c < 256 := by
  simp only [isAtom, decide_eq_true_eq] at h
  omega

theorem b8_nat {n : Nat} (h : n < 256) : (b8 n).toNat = n := by
  simp [b8]
  omega

/-- a formula's text is gone through -/
theorem auto_txt : ∀ (t : Fm), good t → ∀ (st : List Nat) (r : List UInt8), auto (102 :: st) (txt t ++ r) = auto st r := by
  intro t
  induction t with
  | nil => intro h; exact absurd h (by simp [good])
  | node sg wy u l r ihl ihr =>
    intro h st q
    rcases good_cases h with ⟨c, e, hc, ht⟩ | ⟨x, e, hx, ht⟩ | ⟨s, x, y, e, hs, hx, hy, ht⟩ | ⟨v, x, e, hv, hx, ht⟩ | ⟨s, v, x, y, e, hs, hv, hx, hy, ht⟩
    · rw [ht]
      exact auto_yes (by rw [b8_nat (isAtom_lt hc)]; exact fol_atom st hc)
    · rw [ht]
      injection e with _ _ _ e1 _
      subst e1
      rw [List.cons_append, auto_yes (fol_not st)]
      exact ihl hx st q
    · rw [ht]
      injection e with _ _ _ e1 e2
      subst e1 e2
      rw [List.cons_append, auto_yes (fol_open st), List.append_assoc, ihl hx, List.cons_append, auto_yes (by rw [b8_nat (by omega)]; exact fol_bin _ hs), List.append_assoc, ihr hy]
      exact auto_yes (fol_41 st)
    · rw [ht]
      injection e with _ _ _ e1 _
      subst e1
      rw [List.cons_append, auto_yes (by rw [b8_nat (by omega)]; exact fol_way _ hv), List.cons_append, auto_yes (fol_x st)]
      exact ihl hx st q
    · rw [ht]
      injection e with _ _ _ e1 e2
      subst e1 e2
      rw [List.cons_append, auto_yes (by rw [b8_nat (by omega)]; exact fol_way _ hv), List.cons_append, auto_yes (fol_br st), List.append_assoc, ihl hx, List.cons_append, auto_yes (by rw [b8_nat (by omega)]; exact fol_ur _ hs), List.append_assoc, ihr hy]
      exact auto_yes (fol_93 st)

/-- where reading with f fails, the stack's way ends there too -/
def Fails (f : List UInt8 → Bool × List UInt8 × Fm) (m : Nat) : Prop := ∀ l st, l.length < m → (f l).1 = false → ∃ st', st' ≠ [] ∧ auto (102 :: st) l = (st', (f l).2.1)

theorem fol_none102 {c : Nat} (st : List Nat) (h1 : ¬ isAtom c = true) (h2 : ¬ c = 33) (h3 : ¬ c = 40) (h4 : ¬ (c = 69 ∨ c = 65)) : fol 102 st c = none := by
  rw [fol, if_pos rfl, if_neg h1, if_neg h2, if_neg h3, if_neg h4]

theorem rest_le {f : List UInt8 → Bool × List UInt8 × Fm} (hs : Sound f) {l : List UInt8} (h : (f l).1 = true) : (f l).2.1.length < l.length := by
  have e := (hs l h).1
  have hg := (hs l h).2
  have hp : 0 < (txt (f l).2.2).length := by
    rcases good_cases hg with ⟨c, _, _, ht⟩ | ⟨x, _, _, ht⟩ | ⟨s, x, y, _, _, _, _, ht⟩ | ⟨v, x, _, _, _, ht⟩ | ⟨s, v, x, y, _, _, _, _, _, ht⟩ <;> rw [ht] <;> simp
  have e2 := congrArg List.length e
  rw [List.length_append] at e2
  omega

theorem two_fails {f : List UInt8 → Bool × List UInt8 × Fm} {m : Nat} (hs : Sound f) (hf : Fails f m) {wy a b z o : Nat} {st : List Nat} {l : List UInt8} (hl : l.length < m)
    (ho : ∀ st c, fol o st c = if c = a ∨ c = b then some st else none) (hz : ∀ st c, fol z st c = if c = z then some st else none)
    (h : (two f wy a b z l).1 = false) : ∃ st', st' ≠ [] ∧ auto (102 :: o :: 102 :: z :: st) l = (st', (two f wy a b z l).2.1) := by
  unfold two at h ⊢
  split at h
  · rename_i h1
    rw [if_pos h1]
    obtain ⟨e1, g1⟩ := hs l h1
    have hle := rest_le hs h1
    have ha : auto (102 :: o :: 102 :: z :: st) l = auto (o :: 102 :: z :: st) (f l).2.1 := by
      conv => lhs; rw [e1]
      exact auto_txt _ g1 _ _
    rw [ha]
    generalize hq : (f l).2.1 = q at h hle ⊢
    cases q with
    | nil => exact ⟨_, by simp, auto_end _⟩
    | cons d r =>
      dsimp only [mid] at h ⊢
      split at h
      · rename_i hd
        rw [if_pos hd, auto_yes (by rw [ho, if_pos hd])]
        have hr : r.length < m := by simp at hle; omega
        split at h
        · rename_i h2
          rw [if_pos h2]
          obtain ⟨e2, g2⟩ := hs r h2
          have hb : auto (102 :: z :: st) r = auto (z :: st) (f r).2.1 := by
            conv => lhs; rw [e2]
            exact auto_txt _ g2 _ _
          rw [hb]
          generalize (f r).2.1 = q at h ⊢
          cases q with
          | nil => exact ⟨_, by simp, auto_end _⟩
          | cons e q =>
            dsimp only at h ⊢
            split at h
            · simp at h
            · rename_i he
              rw [if_neg he]
              exact ⟨_, by simp, auto_no (by rw [hz, if_neg he])⟩
        · rename_i h2
          rw [if_neg h2]
          exact hf r _ hr (by simpa using h2)
      · rename_i hd
        rw [if_neg hd]
        exact ⟨_, by simp, auto_no (by rw [ho, if_neg hd])⟩
  · rename_i h1
    rw [if_neg h1]
    exact hf l _ hl (by simpa using h1)

theorem fol_111 (st : List Nat) (c : Nat) : fol 111 st c = if c = 38 ∨ c = 43 then some st else none := by simp [fol]
theorem fol_117 (st : List Nat) (c : Nat) : fol 117 st c = if c = 85 ∨ c = 82 then some st else none := by simp [fol]
theorem fol_41' (st : List Nat) (c : Nat) : fol 41 st c = if c = 41 then some st else none := by simp [fol]
theorem fol_93' (st : List Nat) (c : Nat) : fol 93 st c = if c = 93 then some st else none := by simp [fol]

theorem one_fails {f : List UInt8 → Bool × List UInt8 × Fm} {m : Nat} (hf : Fails f m) {sg wy : Nat} {st : List Nat} {l : List UInt8} (hl : l.length < m)
    (h : (one sg wy (f l)).1 = false) : ∃ st', st' ≠ [] ∧ auto (102 :: st) l = (st', (one sg wy (f l)).2.1) := by
  unfold one at h ⊢
  split at h
  · simp at h
  · rename_i h1
    rw [if_neg h1]
    exact hf l _ hl (by simpa using h1)

theorem pt_fails : ∀ n, Fails (pt n) n := by
  intro n
  induction n with
  | zero => intro l st hl; omega
  | succ n ih =>
    intro l st hl h
    cases l with
    | nil => exact ⟨_, by simp, auto_end _⟩
    | cons c r =>
      have hr : r.length < n := by simp at hl; omega
      unfold pt at h ⊢
      split at h
      · simp at h
      · rename_i n1
        rw [if_neg n1]
        split at h
        · rename_i h2
          rw [if_pos h2, auto_yes (by rw [h2]; exact fol_not st)]
          exact one_fails ih hr h
        · rename_i n2
          rw [if_neg n2]
          split at h
          · rename_i h3
            rw [if_pos h3, auto_yes (by rw [h3]; exact fol_open st)]
            exact two_fails (pt_sound n) ih hr fol_111 fol_41' h
          · rename_i n3
            rw [if_neg n3]
            split at h
            · rename_i h4
              rw [if_pos h4, auto_yes (fol_way st h4)]
              cases r with
              | nil => exact ⟨_, by simp, auto_end _⟩
              | cons d r =>
                have hr2 : r.length < n := by simp at hr; omega
                dsimp only [ways] at h ⊢
                split at h
                · rename_i h5
                  rw [if_pos h5, auto_yes (by rw [h5]; exact fol_x st)]
                  exact one_fails ih hr2 h
                · rename_i n5
                  rw [if_neg n5]
                  split at h
                  · rename_i h6
                    rw [if_pos h6, auto_yes (by rw [h6]; exact fol_br st)]
                    exact two_fails (pt_sound n) ih hr2 fol_117 fol_93' h
                  · rename_i n6
                    rw [if_neg n6]
                    exact ⟨_, by simp, auto_no (by rw [fol]; simp [n5, n6])⟩
            · rename_i n4
              rw [if_neg n4]
              exact ⟨_, by simp, auto_no (fol_none102 st n1 n2 n3 n4)⟩

/-- THE TWO WAYS OF READING AGREE -/
theorem auto_pt (l : List UInt8) :
    ((pt (l.length + 1) l).1 = true ∧ auto [102] l = ([], (pt (l.length + 1) l).2.1)) ∨
    ((pt (l.length + 1) l).1 = false ∧ ∃ st, st ≠ [] ∧ auto [102] l = (st, (pt (l.length + 1) l).2.1)) := by
  cases h : (pt (l.length + 1) l).1 with
  | true =>
    left
    refine ⟨rfl, ?_⟩
    obtain ⟨e, g⟩ := pt_sound _ l h
    conv => lhs; rw [e]
    rw [auto_txt _ g, auto_nil]
  | false => exact .inr ⟨rfl, pt_fails _ l [] (by omega) h⟩

end Go.Proofs.Ytcfbfdjmcabnkaa.Fw

/- ENDLESS WAYS THROUGH A GRAPH, AND WHAT FORMULAS SAY OF THEM, in the document's own words. Nothing of the dump. -/
namespace Go.Proofs.Ytcfbfdjmcabnkaa.Fw
open Go.Deep (BT)
set_option linter.unusedVariables false

/-- a graph: how many states; its edges; which state bears which mark -/
structure Gph where
  n : Nat
  e : Nat → Nat → Bool
  m : Nat → Nat → Bool

/-- edges go between states -/
def Gph.ok (G : Gph) : Prop := ∀ i j, G.e i j = true → i < G.n ∧ j < G.n

/-- a fair way from a state -/
structure FWay (G : Gph) (fs : List Nat) (i : Nat) (σ : Nat → Nat) : Prop where
  start : σ 0 = i
  step : ∀ k, G.e (σ k) (σ (k + 1)) = true
  fair : ∀ f ∈ fs, ∀ N, ∃ k, N ≤ k ∧ G.m (σ k) f = true

/-- where a formula holds -/
def sat (G : Gph) (fs : List Nat) : Fm → Nat → Prop
  | .nil, _ => False
  | .node sg wy _ l r, i =>
    if sg = 33 then ¬ sat G fs l i
    else if sg = 38 then sat G fs l i ∧ sat G fs r i
    else if sg = 43 then sat G fs l i ∨ sat G fs r i
    else if sg = 88 then (if wy = 69 then ∃ σ, FWay G fs i σ ∧ sat G fs l (σ 1) else ∀ σ, FWay G fs i σ → sat G fs l (σ 1))
    else if sg = 85 then (if wy = 69 then ∃ σ, FWay G fs i σ ∧ ∃ k, sat G fs r (σ k) ∧ ∀ j, j < k → sat G fs l (σ j) else ∀ σ, FWay G fs i σ → ∃ k, sat G fs r (σ k) ∧ ∀ j, j < k → sat G fs l (σ j))
    else if sg = 82 then (if wy = 69 then ∃ σ, FWay G fs i σ ∧ ((∀ k, sat G fs r (σ k)) ∨ ∃ k, sat G fs l (σ k) ∧ ∀ j, j ≤ k → sat G fs r (σ j)) else ∀ σ, FWay G fs i σ → ((∀ k, sat G fs r (σ k)) ∨ ∃ k, sat G fs l (σ k) ∧ ∀ j, j ≤ k → sat G fs r (σ j)))
    else if sg = 84 then True
    else G.m i sg = true

/-! ### Finite walks -/
/-- m steps from i to j, all states but the last of S -/
def Walk (e : Nat → Nat → Bool) (S : Nat → Prop) (i j m : Nat) (p : Nat → Nat) : Prop := p 0 = i ∧ p m = j ∧ ∀ k, k < m → S (p k) ∧ e (p k) (p (k + 1)) = true

/-- one behind the other -/
def glue (m : Nat) (p q : Nat → Nat) : Nat → Nat := fun k => if k < m then p k else q (k - m)

theorem Walk.glue {e : Nat → Nat → Bool} {S : Nat → Prop} {i j k m l : Nat} {p q : Nat → Nat} (h : Walk e S i j m p) (g : Walk e S j k l q) : Walk e S i k (m + l) (Fw.glue m p q) := by
  obtain ⟨h0, h1, h2⟩ := h
  obtain ⟨g0, g1, g2⟩ := g
  refine ⟨?_, ?_, ?_⟩
  · unfold Fw.glue
    by_cases hm : 0 < m
    · rw [if_pos hm]; exact h0
    · rw [if_neg hm]
      have : m = 0 := by omega
      subst this
      rw [Nat.sub_zero, g0, ← h1]
      exact h0
  · unfold Fw.glue
    rw [if_neg (by omega), show m + l - m = l from by omega]
    exact g1
  · intro t ht
    unfold Fw.glue
    by_cases h3 : t < m
    · rw [if_pos h3]
      by_cases h4 : t + 1 < m
      · rw [if_pos h4]; exact h2 t h3
      · rw [if_neg h4, show t + 1 - m = 0 from by omega, g0, ← h1]
        have := h2 t h3
        rw [show t + 1 = m from by omega] at this
        exact this
    · rw [if_neg h3, if_neg (by omega), show t + 1 - m = t - m + 1 from by omega]
      exact g2 (t - m) (by omega)

def Rch (e : Nat → Nat → Bool) (S : Nat → Prop) (i j : Nat) : Prop := ∃ m p, 0 < m ∧ Walk e S i j m p

theorem Rch.step {e : Nat → Nat → Bool} {S : Nat → Prop} {i j : Nat} (hs : S i) (he : e i j = true) : Rch e S i j := by
  refine ⟨1, fun k => if k = 0 then i else j, by omega, rfl, rfl, ?_⟩
  intro k hk
  obtain rfl : k = 0 := by omega
  exact ⟨hs, he⟩

theorem Rch.trans {e : Nat → Nat → Bool} {S : Nat → Prop} {i j k : Nat} (h : Rch e S i j) (g : Rch e S j k) : Rch e S i k := by
  obtain ⟨m, p, hm, hp⟩ := h
  obtain ⟨l, q, hl, hq⟩ := g
  exact ⟨m + l, _, by omega, hp.glue hq⟩

theorem Rch.here {e : Nat → Nat → Bool} {S : Nat → Prop} {i j : Nat} (h : Rch e S i j) : S i := by
  obtain ⟨m, p, hm, h0, _, h2⟩ := h
  rw [← h0]
  exact (h2 0 hm).1

theorem Rch.mono {e : Nat → Nat → Bool} {S T : Nat → Prop} {i j : Nat} (h : Rch e S i j) (hs : ∀ x, S x → T x) : Rch e T i j := by
  obtain ⟨m, p, hm, h0, h1, h2⟩ := h
  exact ⟨m, p, hm, h0, h1, fun k hk => ⟨hs _ (h2 k hk).1, (h2 k hk).2⟩⟩

/-! ### Adding up the edges, state by state -/
/-- as Rch, the states between below k -/
def Via (e : Nat → Nat → Bool) (S : Nat → Prop) (k i j : Nat) : Prop := ∃ m p, 0 < m ∧ Walk e S i j m p ∧ ∀ t, 0 < t → t < m → p t < k

theorem Via.zero {e : Nat → Nat → Bool} {S : Nat → Prop} {i j : Nat} : Via e S 0 i j ↔ S i ∧ e i j = true := by
  constructor
  · rintro ⟨m, p, hm, ⟨h0, h1, h2⟩, h3⟩
    have hm1 : m = 1 := by
      by_cases h : m = 1
      · exact h
      · exact absurd (h3 1 (by omega) (by omega)) (by omega)
    subst hm1
    have := h2 0 (by omega)
    rw [h0, show 0 + 1 = 1 from rfl, h1] at this
    exact this
  · rintro ⟨hs, he⟩
    refine ⟨1, fun k => if k = 0 then i else j, by omega, ⟨rfl, rfl, ?_⟩, fun t h1 h2 => by omega⟩
    intro k hk
    obtain rfl : k = 0 := by omega
    exact ⟨hs, he⟩

theorem Via.more {e : Nat → Nat → Bool} {S : Nat → Prop} {k i j : Nat} (h : Via e S k i j) : Via e S (k + 1) i j := by
  obtain ⟨m, p, hm, hp, hq⟩ := h
  exact ⟨m, p, hm, hp, fun t h1 h2 => by have := hq t h1 h2; omega⟩

theorem Via.join {e : Nat → Nat → Bool} {S : Nat → Prop} {k i j : Nat} (h : Via e S k i k) (g : Via e S k k j) : Via e S (k + 1) i j := by
  obtain ⟨m, p, hm, hp, hp2⟩ := h
  obtain ⟨l, q, hl, hq, hq2⟩ := g
  refine ⟨m + l, _, by omega, hp.glue hq, ?_⟩
  intro t h1 h2
  unfold Fw.glue
  by_cases h3 : t < m
  · rw [if_pos h3]
    have := hp2 t h1 h3
    omega
  · rw [if_neg h3]
    by_cases h4 : t = m
    · rw [h4, Nat.sub_self, hq.1]
      omega
    · have := hq2 (t - m) (by omega) (by omega)
      omega

theorem via_part {e : Nat → Nat → Bool} {S : Nat → Prop} {k : Nat} : ∀ m i j p, 0 < m → Walk e S i j m p → (∀ t, 0 < t → t < m → p t < k + 1) → Via e S k i j ∨ (Via e S k i k ∧ Via e S k k j) := by
  intro m
  induction m using Nat.strongRecOn with
  | ind m ih =>
    intro i j p hm hp hq
    by_cases h : ∃ t, 0 < t ∧ t < m ∧ p t = k
    · obtain ⟨t, h1, h2, h3⟩ := h
      right
      have ha : Walk e S i k t p := ⟨hp.1, h3, fun x hx => hp.2.2 x (by omega)⟩
      have hb : Walk e S k j (m - t) (fun x => p (t + x)) := by
        refine ⟨h3, ?_, fun x hx => ?_⟩
        · show p (t + (m - t)) = j
          rw [show t + (m - t) = m from by omega]
          exact hp.2.1
        · have := hp.2.2 (t + x) (by omega)
          rw [Nat.add_assoc] at this
          exact this
      have hA := ih t h2 i k p h1 ha (fun x h4 h5 => hq x h4 (by omega))
      have hB := ih (m - t) (by omega) k j _ (by omega) hb (fun x h4 h5 => hq (t + x) (by omega) (by omega))
      constructor
      · rcases hA with h | h
        · exact h
        · exact h.1
      · rcases hB with h | h
        · exact h
        · exact h.2
    · left
      refine ⟨m, p, hm, hp, fun t h1 h2 => ?_⟩
      have h3 := hq t h1 h2
      have h4 : p t ≠ k := fun e => h ⟨t, h1, h2, e⟩
      omega

theorem Via.succ {e : Nat → Nat → Bool} {S : Nat → Prop} {k i j : Nat} : Via e S (k + 1) i j ↔ Via e S k i j ∨ (Via e S k i k ∧ Via e S k k j) := by
  constructor
  · rintro ⟨m, p, hm, hp, hq⟩
    exact via_part m i j p hm hp hq
  · rintro (h | ⟨h, g⟩)
    · exact h.more
    · exact h.join g

theorem via_all {e : Nat → Nat → Bool} {S : Nat → Prop} {n i j : Nat} (ok : ∀ i j, e i j = true → i < n ∧ j < n) : Via e S n i j ↔ Rch e S i j := by
  constructor
  · rintro ⟨m, p, hm, hp, _⟩
    exact ⟨m, p, hm, hp⟩
  · rintro ⟨m, p, hm, hp⟩
    exact ⟨m, p, hm, hp, fun t _ h2 => (ok _ _ (hp.2.2 t h2).2).1⟩

/-- the table behind k states: i to j -/
def fw (e : Nat → Nat → Bool) (S : Nat → Bool) : Nat → Nat → Nat → Bool
  | 0, i, j => S i && e i j
  | k + 1, i, j => fw e S k i j || (fw e S k i k && fw e S k k j)

theorem fw_via {e : Nat → Nat → Bool} {S : Nat → Bool} : ∀ k i j, fw e S k i j = true ↔ Via e (fun x => S x = true) k i j := by
  intro k
  induction k with
  | zero => intro i j; rw [Via.zero]; simp [fw]
  | succ k ih => intro i j; rw [Via.succ, ← ih, ← ih, ← ih]; simp [fw]

theorem fw_rch {G : Gph} (ok : G.ok) {S : Nat → Bool} (i j : Nat) : fw G.e S G.n i j = true ↔ Rch G.e (fun x => S x = true) i j := by
  rw [fw_via, via_all ok]

/-! ### Fair ways that stay -/
def Stay (G : Gph) (fs : List Nat) (S : Nat → Prop) (i : Nat) : Prop := ∃ σ, FWay G fs i σ ∧ ∀ k, S (σ k)

/-- a loop through c that meets all fair marks -/
def Loop (G : Gph) (fs : List Nat) (S : Nat → Prop) (c : Nat) : Prop := S c ∧ Rch G.e S c c ∧ ∀ f ∈ fs, ∃ d, S d ∧ G.m d f = true ∧ Rch G.e S c d ∧ Rch G.e S d c

theorem often : ∀ (n : Nat) (σ : Nat → Nat), (∀ k, σ k < n) → ∃ c, ∀ N, ∃ k, N ≤ k ∧ σ k = c := by
  intro n
  induction n with
  | zero => intro σ h; exact absurd (h 0) (by omega)
  | succ n ih =>
    intro σ h
    by_cases hc : ∀ N, ∃ k, N ≤ k ∧ σ k = n
    · exact ⟨n, hc⟩
    · obtain ⟨N, hN⟩ : ∃ N, ∀ k, N ≤ k → σ k ≠ n := by
        refine Classical.byContradiction fun hx => hc fun N => ?_
        refine Classical.byContradiction fun hy => hx ⟨N, fun k hk he => hy ⟨k, hk, he⟩⟩
      obtain ⟨c, hcc⟩ := ih (fun k => σ (N + k)) (fun k => by have h1 := h (N + k); have h2 := hN (N + k) (by omega); show σ (N + k) < n; omega)
      refine ⟨c, fun M => ?_⟩
      obtain ⟨k, hk, he⟩ := hcc M
      exact ⟨N + k, by omega, he⟩

theorem way_walk {G : Gph} {σ : Nat → Nat} (h : ∀ k, G.e (σ k) (σ (k + 1)) = true) {S : Nat → Prop} {a b : Nat} (hab : a < b) (hs : ∀ k, a ≤ k → k < b → S (σ k)) : Rch G.e S (σ a) (σ b) := by
  refine ⟨b - a, fun k => σ (a + k), by omega, rfl, ?_, fun k hk => ⟨hs (a + k) (by omega) (by omega), ?_⟩⟩
  · show σ (a + (b - a)) = σ b
    rw [show a + (b - a) = b from by omega]
  · have := h (a + k)
    rw [Nat.add_assoc] at this
    exact this

theorem stay_loop {G : Gph} (ok : G.ok) {fs : List Nat} {S : Nat → Prop} {i : Nat} (h : Stay G fs S i) : S i ∧ ∃ c, (i = c ∨ Rch G.e S i c) ∧ Loop G fs S c := by
  obtain ⟨σ, ⟨h0, h1, h2⟩, h3⟩ := h
  refine ⟨by rw [← h0]; exact h3 0, ?_⟩
  obtain ⟨c, hc⟩ := often G.n σ (fun k => (ok _ _ (h1 k)).1)
  obtain ⟨k0, _, e0⟩ := hc 0
  refine ⟨c, ?_, ?_, ?_, ?_⟩
  · by_cases hk : k0 = 0
    · left; rw [← h0, ← e0, hk]
    · right
      have := way_walk h1 (S := S) (show 0 < k0 by omega) (fun k _ _ => h3 k)
      rw [h0, e0] at this
      exact this
  · rw [← e0]; exact h3 k0
  · obtain ⟨k1, h4, e1⟩ := hc (k0 + 1)
    have := way_walk h1 (S := S) (show k0 < k1 by omega) (fun k _ _ => h3 k)
    rw [e0, e1] at this
    exact this
  · intro f hf
    obtain ⟨k1, h4, hm⟩ := h2 f hf (k0 + 1)
    obtain ⟨k2, h5, e2⟩ := hc (k1 + 1)
    have ha := way_walk h1 (S := S) (show k0 < k1 by omega) (fun k _ _ => h3 k)
    have hb := way_walk h1 (S := S) (show k1 < k2 by omega) (fun k _ _ => h3 k)
    rw [e0] at ha
    rw [e2] at hb
    exact ⟨σ k1, h3 k1, hm, ha, hb⟩

/-- a closed walk of L steps through c, that meets the marks -/
def Cyc (G : Gph) (fs : List Nat) (S : Nat → Prop) (c L : Nat) (p : Nat → Nat) : Prop := 0 < L ∧ Walk G.e S c c L p ∧ ∀ f ∈ fs, ∃ t, t < L ∧ G.m (p t) f = true

theorem loop_cyc {G : Gph} {S : Nat → Prop} {c : Nat} (hr : Rch G.e S c c) : ∀ fs : List Nat, (∀ f ∈ fs, ∃ d, S d ∧ G.m d f = true ∧ Rch G.e S c d ∧ Rch G.e S d c) → ∃ L p, Cyc G fs S c L p := by
  intro fs
  induction fs with
  | nil =>
    intro _
    obtain ⟨m, p, hm, hp⟩ := hr
    exact ⟨m, p, hm, hp, fun f hf => by simp at hf⟩
  | cons f fs ih =>
    intro h
    obtain ⟨L, p, hL, hp, hq⟩ := ih (fun g hg => h g (List.mem_cons_of_mem _ hg))
    obtain ⟨d, hd, hm, ⟨m1, p1, hm1, hw1⟩, ⟨m2, p2, hm2, hw2⟩⟩ := h f (by simp)
    refine ⟨L + (m1 + m2), _, by omega, hp.glue (hw1.glue hw2), ?_⟩
    intro g hg
    rcases List.mem_cons.1 hg with rfl | hg
    · refine ⟨L + m1, by omega, ?_⟩
      unfold Fw.glue
      rw [if_neg (by omega), show L + m1 - L = m1 from by omega, if_neg (by omega), Nat.sub_self, hw2.1]
      exact hm
    · obtain ⟨t, ht, hmt⟩ := hq g hg
      refine ⟨t, by omega, ?_⟩
      unfold Fw.glue
      rw [if_pos ht]
      exact hmt

theorem cyc_stay {G : Gph} {fs : List Nat} {S : Nat → Prop} {c L : Nat} {p : Nat → Nat} (h : Cyc G fs S c L p) : Stay G fs S c := by
  obtain ⟨hL, ⟨h0, h1, h2⟩, h3⟩ := h
  have hmod : ∀ k, k % L < L := fun k => Nat.mod_lt _ hL
  refine ⟨fun k => p (k % L), ⟨?_, ?_, ?_⟩, fun k => (h2 _ (hmod k)).1⟩
  · show p (0 % L) = c
    rw [Nat.zero_mod]
    exact h0
  · intro k
    show G.e (p (k % L)) (p ((k + 1) % L)) = true
    have hk := (h2 _ (hmod k)).2
    by_cases hx : k % L + 1 < L
    · rw [Nat.add_mod, Nat.mod_eq_of_lt (show 1 < L by omega), Nat.mod_eq_of_lt hx]
      exact hk
    · have hy : k % L + 1 = L := by have := hmod k; omega
      have hz : (k + 1) % L = 0 := by
        have e1 := Nat.div_add_mod k L
        have e2 : k + 1 = L * (k / L + 1) := by rw [Nat.mul_add, Nat.mul_one]; omega
        rw [e2, Nat.mul_mod_right]
      rw [hz, h0, ← h1]
      rw [hy] at hk
      exact hk
  · intro f hf N
    obtain ⟨t, ht, hm⟩ := h3 f hf
    refine ⟨N * L + t, ?_, ?_⟩
    · have : N ≤ N * L := Nat.le_mul_of_pos_right N hL
      omega
    · show G.m (p ((N * L + t) % L)) f = true
      rw [Nat.mul_comm, Nat.mul_add_mod, Nat.mod_eq_of_lt ht]
      exact hm

/-- ahead of a fair way -/
theorem way_ahead {G : Gph} {fs : List Nat} {S : Nat → Prop} {i c m : Nat} {q σ : Nat → Nat} (hw : Walk G.e S i c m q) (h : FWay G fs c σ) : FWay G fs i (Fw.glue m q σ) := by
  obtain ⟨w0, w1, w2⟩ := hw
  refine ⟨?_, ?_, ?_⟩
  · unfold Fw.glue
    by_cases hm : 0 < m
    · rw [if_pos hm]; exact w0
    · rw [if_neg hm, show 0 - m = 0 from by omega, h.start, ← w1, show m = 0 from by omega]
      exact w0
  · intro k
    unfold Fw.glue
    by_cases h3 : k < m
    · rw [if_pos h3]
      by_cases h4 : k + 1 < m
      · rw [if_pos h4]; exact (w2 k h3).2
      · rw [if_neg h4, show k + 1 - m = 0 from by omega, h.start, ← w1]
        have := (w2 k h3).2
        rw [show k + 1 = m from by omega] at this
        exact this
    · rw [if_neg h3, if_neg (by omega), show k + 1 - m = k - m + 1 from by omega]
      exact h.step (k - m)
  · intro f hf N
    obtain ⟨k, hk, hm⟩ := h.fair f hf N
    refine ⟨m + k, by omega, ?_⟩
    unfold Fw.glue
    rw [if_neg (by omega), show m + k - m = k from by omega]
    exact hm

theorem glue_lt {m k : Nat} {p q : Nat → Nat} (h : k < m) : Fw.glue m p q k = p k := by unfold Fw.glue; rw [if_pos h]
theorem glue_ge {m k : Nat} {p q : Nat → Nat} (h : m ≤ k) : Fw.glue m p q k = q (k - m) := by unfold Fw.glue; rw [if_neg (by omega)]

theorem loop_stay {G : Gph} {fs : List Nat} {S : Nat → Prop} {i c : Nat} (h : i = c ∨ Rch G.e S i c) (hl : Loop G fs S c) : Stay G fs S i := by
  obtain ⟨h1, h2, h3⟩ := hl
  obtain ⟨L, p, hc⟩ := loop_cyc h2 fs h3
  have hs := cyc_stay hc
  rcases h with rfl | ⟨m, q, hm, hq⟩
  · exact hs
  · obtain ⟨σ, hf, hS⟩ := hs
    refine ⟨_, way_ahead hq hf, fun k => ?_⟩
    by_cases hk : k < m
    · rw [glue_lt hk]; exact (hq.2.2 k hk).1
    · rw [glue_ge (by omega)]; exact hS _

/-- WHERE A FAIR WAY STAYS: who can come to whom and back -/
theorem stay_iff {G : Gph} (ok : G.ok) {fs : List Nat} {S : Nat → Prop} {i : Nat} : Stay G fs S i ↔ S i ∧ ∃ c, (i = c ∨ Rch G.e S i c) ∧ Loop G fs S c := by
  constructor
  · exact stay_loop ok
  · rintro ⟨_, c, h, hl⟩
    exact loop_stay h hl

def Live (G : Gph) (fs : List Nat) (i : Nat) : Prop := ∃ σ, FWay G fs i σ
theorem live_stay {G : Gph} {fs : List Nat} {i : Nat} : Live G fs i ↔ Stay G fs (fun _ => True) i := by
  constructor
  · rintro ⟨σ, h⟩; exact ⟨σ, h, fun _ => trivial⟩
  · rintro ⟨σ, h, _⟩; exact ⟨σ, h⟩

/-- the rest of a fair way -/
theorem way_rest {G : Gph} {fs : List Nat} {i : Nat} {σ : Nat → Nat} (h : FWay G fs i σ) (k : Nat) : FWay G fs (σ k) (fun t => σ (k + t)) := by
  refine ⟨rfl, fun t => ?_, fun f hf N => ?_⟩
  · have := h.step (k + t)
    rw [Nat.add_assoc] at this
    exact this
  · obtain ⟨t, ht, hm⟩ := h.fair f hf (k + N)
    refine ⟨t - k, by omega, ?_⟩
    show G.m (σ (k + (t - k))) f = true
    rw [show k + (t - k) = t from by omega]
    exact hm

/-- E and X -/
theorem ex_iff {G : Gph} {fs : List Nat} {A : Nat → Prop} {i : Nat} : (∃ σ, FWay G fs i σ ∧ A (σ 1)) ↔ ∃ j, G.e i j = true ∧ A j ∧ Live G fs j := by
  constructor
  · rintro ⟨σ, h, ha⟩
    have := h.step 0
    rw [h.start] at this
    exact ⟨σ 1, this, ha, _, way_rest h 1⟩
  · rintro ⟨j, he, ha, σ, h⟩
    have hw : Walk G.e (fun _ => True) i j 1 (fun k => if k = 0 then i else j) := by
      refine ⟨rfl, rfl, fun k hk => ?_⟩
      obtain rfl : k = 0 := by omega
      exact ⟨trivial, he⟩
    refine ⟨_, way_ahead hw h, ?_⟩
    rw [glue_ge (by omega), Nat.sub_self, h.start]
    exact ha

/-- E and U -/
theorem eu_iff {G : Gph} {fs : List Nat} {A B : Nat → Prop} {i : Nat} : (∃ σ, FWay G fs i σ ∧ ∃ k, B (σ k) ∧ ∀ j, j < k → A (σ j)) ↔ (B i ∧ Live G fs i) ∨ ∃ j, (B j ∧ Live G fs j) ∧ Rch G.e A i j := by
  constructor
  · rintro ⟨σ, h, k, hb, ha⟩
    by_cases hk : k = 0
    · subst hk
      rw [h.start] at hb
      exact .inl ⟨hb, σ, h⟩
    · right
      refine ⟨σ k, ⟨hb, _, way_rest h k⟩, ?_⟩
      have := way_walk h.step (S := A) (show 0 < k by omega) (fun t _ ht => ha t ht)
      rw [h.start] at this
      exact this
  · rintro (⟨hb, σ, h⟩ | ⟨j, ⟨hb, σ, h⟩, m, q, hm, hq⟩)
    · exact ⟨σ, h, 0, by rw [h.start]; exact hb, fun j hj => by omega⟩
    · refine ⟨_, way_ahead hq h, m, ?_, fun t ht => ?_⟩
      · rw [glue_ge (Nat.le_refl _), Nat.sub_self, h.start]; exact hb
      · rw [glue_lt ht]; exact (hq.2.2 t ht).1

/-- E and R -/
theorem er_iff {G : Gph} {fs : List Nat} {A B : Nat → Prop} {i : Nat} : (∃ σ, FWay G fs i σ ∧ ((∀ k, B (σ k)) ∨ ∃ k, A (σ k) ∧ ∀ j, j ≤ k → B (σ j))) ↔
    Stay G fs B i ∨ ((A i ∧ B i) ∧ Live G fs i) ∨ ∃ j, ((A j ∧ B j) ∧ Live G fs j) ∧ Rch G.e B i j := by
  constructor
  · rintro ⟨σ, h, hb | ⟨k, ha, hb⟩⟩
    · exact .inl ⟨σ, h, hb⟩
    · right
      refine (eu_iff (A := B) (B := fun x => A x ∧ B x)).1 ⟨σ, h, k, ⟨ha, hb k (Nat.le_refl _)⟩, fun j hj => hb j (by omega)⟩
  · rintro (⟨σ, h, hb⟩ | h)
    · exact ⟨σ, h, .inl hb⟩
    · obtain ⟨σ, h, k, ⟨ha, hb⟩, hc⟩ := (eu_iff (A := B) (B := fun x => A x ∧ B x)).2 h
      refine ⟨σ, h, .inr ⟨k, ha, fun j hj => ?_⟩⟩
      by_cases e : j = k
      · rw [e]; exact hb
      · exact hc j (by omega)

/-! ### The same, reckoned -/
section
variable (G : Gph) (fs : List Nat)

def anyN (p : Nat → Bool) : Bool := (List.range G.n).any p

def roundB (S : Nat → Bool) (c : Nat) : Bool :=
  S c && fw G.e S G.n c c && fs.all fun f => anyN G fun d => S d && G.m d f && fw G.e S G.n c d && fw G.e S G.n d c

def staysB (S : Nat → Bool) (i : Nat) : Bool := anyN G fun c => roundB G fs S c && S i && (i == c || fw G.e S G.n i c)

def fullB (i : Nat) : Bool := decide (i < G.n)

def comesB (a b : Nat → Bool) (i : Nat) : Bool := b i || anyN G fun j => b j && fw G.e a G.n i j

def liveB (i : Nat) : Bool := staysB G fs (fullB G) i

/-- sg: X, U or R -/
def someB (sg : Nat) (a b : Nat → Bool) (i : Nat) : Bool :=
  if sg = 88 then anyN G fun j => G.e i j && a j && liveB G fs j
  else if sg = 85 then comesB G a (fun j => b j && liveB G fs j) i
  else comesB G b (fun j => a j && b j && liveB G fs j) i || staysB G fs b i

def flip (sg : Nat) : Nat := if sg = 85 then 82 else if sg = 82 then 85 else sg

/-- where a formula holds, reckoned -/
def holdsB : Fm → Nat → Bool
  | .nil, _ => false
  | .node sg wy _ l r, i =>
    if sg = 33 then !(holdsB l i)
    else if sg = 38 then holdsB l i && holdsB r i
    else if sg = 43 then holdsB l i || holdsB r i
    else if sg = 88 ∨ sg = 85 ∨ sg = 82 then
      (if wy = 69 then someB G fs sg (fun j => decide (j < G.n) && holdsB l j) (fun j => decide (j < G.n) && holdsB r j) i
       else !(someB G fs (flip sg) (fun j => decide (j < G.n) && !(holdsB l j)) (fun j => decide (j < G.n) && !(holdsB r j)) i))
    else if sg = 84 then true
    else G.m i sg

variable {G fs}

theorem anyN_iff {p : Nat → Bool} : anyN G p = true ↔ ∃ j, j < G.n ∧ p j = true := by
  simp [anyN, List.any_eq_true]

theorem rch_lt (ok : G.ok) {S : Nat → Prop} {i j : Nat} (h : Rch G.e S i j) : i < G.n ∧ j < G.n := by
  obtain ⟨m, p, hm, h0, h1, h2⟩ := h
  refine ⟨by rw [← h0]; exact (ok _ _ (h2 0 hm).2).1, ?_⟩
  have := (ok _ _ (h2 (m - 1) (by omega)).2).2
  rw [show m - 1 + 1 = m from by omega, h1] at this
  exact this

theorem roundB_iff (ok : G.ok) {S : Nat → Bool} {c : Nat} : roundB G fs S c = true ↔ Loop G fs (fun x => S x = true) c := by
  unfold roundB Loop
  rw [Bool.and_eq_true, Bool.and_eq_true, fw_rch ok, List.all_eq_true]
  constructor
  · rintro ⟨⟨h1, h2⟩, h3⟩
    refine ⟨h1, h2, fun f hf => ?_⟩
    obtain ⟨d, _, hd⟩ := anyN_iff.1 (h3 f hf)
    rw [Bool.and_eq_true, Bool.and_eq_true, Bool.and_eq_true, fw_rch ok, fw_rch ok] at hd
    exact ⟨d, hd.1.1.1, hd.1.1.2, hd.1.2, hd.2⟩
  · rintro ⟨h1, h2, h3⟩
    refine ⟨⟨h1, h2⟩, fun f hf => ?_⟩
    obtain ⟨d, h4, h5, h6, h7⟩ := h3 f hf
    refine anyN_iff.2 ⟨d, (rch_lt ok h7).1, ?_⟩
    rw [Bool.and_eq_true, Bool.and_eq_true, Bool.and_eq_true, fw_rch ok, fw_rch ok]
    exact ⟨⟨⟨h4, h5⟩, h6⟩, h7⟩

theorem staysB_iff (ok : G.ok) {S : Nat → Bool} {i : Nat} : staysB G fs S i = true ↔ Stay G fs (fun x => S x = true) i := by
  rw [stay_iff ok, staysB, anyN_iff]
  constructor
  · rintro ⟨c, _, h⟩
    rw [Bool.and_eq_true, Bool.and_eq_true, roundB_iff ok, Bool.or_eq_true, beq_iff_eq, fw_rch ok] at h
    exact ⟨h.1.2, c, h.2, h.1.1⟩
  · rintro ⟨h1, c, h2, h3⟩
    refine ⟨c, (rch_lt ok h3.2.1).1, ?_⟩
    rw [Bool.and_eq_true, Bool.and_eq_true, roundB_iff ok, Bool.or_eq_true, beq_iff_eq, fw_rch ok]
    exact ⟨⟨h3, h1⟩, h2⟩

theorem live_lt (ok : G.ok) {i : Nat} (h : Live G fs i) : i < G.n := by
  obtain ⟨σ, h⟩ := h
  have := (ok _ _ (h.step 0)).1
  rw [h.start] at this
  exact this

theorem stay_mono {S T : Nat → Prop} {i : Nat} (h : Stay G fs S i) (hst : ∀ x, S x → T x) : Stay G fs T i := by
  obtain ⟨σ, h, hs⟩ := h
  exact ⟨σ, h, fun k => hst _ (hs k)⟩

theorem liveB_iff (ok : G.ok) {i : Nat} : liveB G fs i = true ↔ Live G fs i := by
  rw [liveB, staysB_iff ok, live_stay]
  constructor
  · intro h; exact stay_mono h (fun _ _ => trivial)
  · rintro ⟨σ, h, _⟩
    exact ⟨σ, h, fun k => by simp only [fullB, decide_eq_true_eq]; exact (ok _ _ (h.step k)).1⟩

theorem comesB_iff (ok : G.ok) {a b : Nat → Bool} {i : Nat} : comesB G a b i = true ↔ b i = true ∨ ∃ j, b j = true ∧ Rch G.e (fun x => a x = true) i j := by
  rw [comesB, Bool.or_eq_true, anyN_iff]
  constructor
  · rintro (h | ⟨j, _, h⟩)
    · exact .inl h
    · rw [Bool.and_eq_true, fw_rch ok] at h
      exact .inr ⟨j, h⟩
  · rintro (h | ⟨j, h1, h2⟩)
    · exact .inl h
    · exact .inr ⟨j, (rch_lt ok h2).2, by rw [Bool.and_eq_true, fw_rch ok]; exact ⟨h1, h2⟩⟩

/-- what is said of a way: X, U or R -/
def says (sg : Nat) (A B : Nat → Prop) (σ : Nat → Nat) : Prop :=
  if sg = 88 then A (σ 1) else if sg = 85 then ∃ k, B (σ k) ∧ ∀ j, j < k → A (σ j) else (∀ k, B (σ k)) ∨ ∃ k, A (σ k) ∧ ∀ j, j ≤ k → B (σ j)

theorem someB_iff (ok : G.ok) {sg : Nat} {a b : Nat → Bool} {i : Nat} : someB G fs sg a b i = true ↔ ∃ σ, FWay G fs i σ ∧ says sg (fun x => a x = true) (fun x => b x = true) σ := by
  unfold someB says
  by_cases h1 : sg = 88
  · simp only [h1, if_true]
    rw [ex_iff (A := fun x => a x = true), anyN_iff]
    constructor
    · rintro ⟨j, _, h⟩
      rw [Bool.and_eq_true, Bool.and_eq_true, liveB_iff ok] at h
      exact ⟨j, h.1.1, h.1.2, h.2⟩
    · rintro ⟨j, h1, h2, h3⟩
      refine ⟨j, live_lt ok h3, ?_⟩
      rw [Bool.and_eq_true, Bool.and_eq_true, liveB_iff ok]
      exact ⟨⟨h1, h2⟩, h3⟩
  · simp only [if_neg h1]
    by_cases h2 : sg = 85
    · simp only [h2, if_true]
      rw [eu_iff (A := fun x => a x = true) (B := fun x => b x = true), comesB_iff ok]
      simp only [Bool.and_eq_true, liveB_iff ok]
    · simp only [if_neg h2]
      rw [er_iff (A := fun x => a x = true) (B := fun x => b x = true), Bool.or_eq_true, comesB_iff ok, staysB_iff ok]
      simp only [Bool.and_eq_true, liveB_iff ok]
      constructor
      · rintro (h | h)
        · exact .inr h
        · exact .inl h
      · rintro (h | h)
        · exact .inr h
        · exact .inl h

/-- the contrary of what is said of a way -/
theorem says_flip {sg : Nat} (h : sg = 88 ∨ sg = 85 ∨ sg = 82) {A B : Nat → Prop} {σ : Nat → Nat} : says (flip sg) (fun x => ¬ A x) (fun x => ¬ B x) σ ↔ ¬ says sg A B σ := by
  rcases h with rfl | rfl | rfl
  · simp [says, flip]
  · show ((∀ k, ¬ B (σ k)) ∨ ∃ k, ¬ A (σ k) ∧ ∀ j, j ≤ k → ¬ B (σ j)) ↔ ¬ (∃ k, B (σ k) ∧ ∀ j, j < k → A (σ j))
    constructor
    · rintro (h | ⟨k, h1, h2⟩) ⟨t, h3, h4⟩
      · exact h t h3
      · by_cases hk : t ≤ k
        · exact h2 t hk h3
        · exact h1 (h4 k (by omega))
    · intro h
      refine Classical.byContradiction fun hc => ?_
      have hc1 : ¬ ∀ k, ¬ B (σ k) := fun hx => hc (.inl hx)
      have hc2 : ∀ k, ¬ A (σ k) → ∃ j, j ≤ k ∧ B (σ j) := fun k ha => Classical.byContradiction fun hx => hc (.inr ⟨k, ha, fun j hj hb => hx ⟨j, hj, hb⟩⟩)
      obtain ⟨t, ht⟩ : ∃ t, B (σ t) := Classical.byContradiction fun hx => hc1 fun k hb => hx ⟨k, hb⟩
      have key : ∀ t, B (σ t) → ∃ k, B (σ k) ∧ ∀ j, j < k → A (σ j) := by
        intro t
        induction t using Nat.strongRecOn with
        | ind t ih =>
          intro hb
          by_cases hx : ∃ j, j < t ∧ ¬ A (σ j)
          · obtain ⟨j, hj, ha⟩ := hx
            obtain ⟨q, hq, hbq⟩ := hc2 j ha
            exact ih q (by omega) hbq
          · exact ⟨t, hb, fun j hj => Classical.byContradiction fun ha => hx ⟨j, hj, ha⟩⟩
      exact h (key t ht)
  · show (∃ k, ¬ B (σ k) ∧ ∀ j, j < k → ¬ A (σ j)) ↔ ¬ ((∀ k, B (σ k)) ∨ ∃ k, A (σ k) ∧ ∀ j, j ≤ k → B (σ j))
    constructor
    · rintro ⟨k, h1, h2⟩ (h | ⟨t, h3, h4⟩)
      · exact h1 (h k)
      · by_cases hk : k ≤ t
        · exact h1 (h4 k hk)
        · exact h2 t (by omega) h3
    · intro h
      have h1 : ¬ ∀ k, B (σ k) := fun hx => h (.inl hx)
      have h2 : ∀ k, A (σ k) → ∃ j, j ≤ k ∧ ¬ B (σ j) := fun k ha => Classical.byContradiction fun hx => h (.inr ⟨k, ha, fun j hj => Classical.byContradiction fun hb => hx ⟨j, hj, hb⟩⟩)
      obtain ⟨t, ht⟩ : ∃ t, ¬ B (σ t) := Classical.byContradiction fun hx => h1 fun k => Classical.byContradiction fun hb => hx ⟨k, hb⟩
      have key : ∀ t, ¬ B (σ t) → ∃ k, ¬ B (σ k) ∧ ∀ j, j < k → ¬ A (σ j) := by
        intro t
        induction t using Nat.strongRecOn with
        | ind t ih =>
          intro hb
          by_cases hx : ∃ j, j < t ∧ A (σ j)
          · obtain ⟨j, hj, ha⟩ := hx
            obtain ⟨q, hq, hbq⟩ := h2 j ha
            exact ih q (by omega) hbq
          · exact ⟨t, hb, fun j hj ha => hx ⟨j, hj, ha⟩⟩
      exact key t ht

/-- a formula with E or A, by what it says of ways -/
theorem sat_way {sg wy : Nat} {l r : Fm} {u : Unit} (h : sg = 88 ∨ sg = 85 ∨ sg = 82) (i : Nat) : sat G fs (.node sg wy u l r) i ↔ (if wy = 69 then ∃ σ, FWay G fs i σ ∧ says sg (sat G fs l) (sat G fs r) σ else ∀ σ, FWay G fs i σ → says sg (sat G fs l) (sat G fs r) σ) := by
  rcases h with rfl | rfl | rfl
  · exact Iff.rfl
  · exact Iff.rfl
  · exact Iff.rfl

theorem says_congr {sg : Nat} {A B A' B' : Nat → Prop} {σ : Nat → Nat} (ha : ∀ k, A (σ k) ↔ A' (σ k)) (hb : ∀ k, B (σ k) ↔ B' (σ k)) : says sg A B σ ↔ says sg A' B' σ := by
  unfold says
  simp only [ha, hb]

/-- WHAT IS RECKONED IS WHAT THE DOCUMENT SAYS -/
theorem holdsB_iff (ok : G.ok) : ∀ (t : Fm), good t → ∀ i, i < G.n → (holdsB G fs t i = true ↔ sat G fs t i) := by
  intro t
  induction t with
  | nil => intro h; exact absurd h (by simp [good])
  | node sg wy u l r ihl ihr =>
    intro h i hi
    have key : (sg = 88 ∨ sg = 85 ∨ sg = 82) → (wy = 69 ∨ wy = 65) → good l → (good r ∨ (sg = 88 ∧ r = .nil)) → (holdsB G fs (.node sg wy u l r) i = true ↔ sat G fs (.node sg wy u l r) i) := by
      intro hs hw gl gr
      rw [sat_way hs]
      have hb : ∀ σ, FWay G fs i σ → ∀ k, σ k < G.n := fun σ hσ k => (ok _ _ (hσ.step k)).1
      have el : ∀ j, j < G.n → ((decide (j < G.n) && holdsB G fs l j) = true ↔ sat G fs l j) := fun j hj => by simp [hj, ihl gl j hj]
      have el' : ∀ j, j < G.n → ((decide (j < G.n) && !(holdsB G fs l j)) = true ↔ ¬ sat G fs l j) := fun j hj => by
        rw [← ihl gl j hj]; simp [hj]
      have er : ∀ j, j < G.n → good r → ((decide (j < G.n) && holdsB G fs r j) = true ↔ sat G fs r j) := fun j hj gr => by simp [hj, ihr gr j hj]
      have er' : ∀ j, j < G.n → good r → ((decide (j < G.n) && !(holdsB G fs r j)) = true ↔ ¬ sat G fs r j) := fun j hj gr => by
        rw [← ihr gr j hj]; simp [hj]
      have hu : holdsB G fs (.node sg wy u l r) i = (if wy = 69 then someB G fs sg (fun j => decide (j < G.n) && holdsB G fs l j) (fun j => decide (j < G.n) && holdsB G fs r j) i
       else !(someB G fs (flip sg) (fun j => decide (j < G.n) && !(holdsB G fs l j)) (fun j => decide (j < G.n) && !(holdsB G fs r j)) i)) := by
        rw [holdsB, if_neg (by omega), if_neg (by omega), if_neg (by omega), if_pos hs]
      rw [hu]
      by_cases hw : wy = 69
      · rw [if_pos hw, if_pos hw, someB_iff ok]
        constructor
        · rintro ⟨σ, hσ, hx⟩
          refine ⟨σ, hσ, ?_⟩
          rcases gr with gr | ⟨e, _⟩
          · exact (says_congr (fun k => el _ (hb σ hσ k)) (fun k => er _ (hb σ hσ k) gr)).1 hx
          · subst e
            exact (el _ (hb σ hσ 1)).1 hx
        · rintro ⟨σ, hσ, hx⟩
          refine ⟨σ, hσ, ?_⟩
          rcases gr with gr | ⟨e, _⟩
          · exact (says_congr (fun k => el _ (hb σ hσ k)) (fun k => er _ (hb σ hσ k) gr)).2 hx
          · subst e
            exact (el _ (hb σ hσ 1)).2 hx
      · rw [if_neg hw, if_neg hw, Bool.not_eq_true', ← Bool.not_eq_true, someB_iff ok]
        constructor
        · intro hn σ hσ
          refine Classical.byContradiction fun hx => hn ⟨σ, hσ, ?_⟩
          rcases gr with gr | ⟨e, _⟩
          · exact (says_congr (fun k => el' _ (hb σ hσ k)) (fun k => er' _ (hb σ hσ k) gr)).2 ((says_flip hs).2 hx)
          · subst e
            exact (el' _ (hb σ hσ 1)).2 hx
        · rintro ha ⟨σ, hσ, hx⟩
          have hy := ha σ hσ
          rcases gr with gr | ⟨e, _⟩
          · exact (says_flip hs).1 ((says_congr (fun k => el' _ (hb σ hσ k)) (fun k => er' _ (hb σ hσ k) gr)).1 hx) hy
          · subst e
            exact (el' _ (hb σ hσ 1)).1 hx hy
    rcases good_cases h with ⟨c, e, hc, ht⟩ | ⟨x, e, hx, ht⟩ | ⟨s, x, y, e, hs, hx, hy, ht⟩ | ⟨v, x, e, hv, hx, ht⟩ | ⟨s, v, x, y, e, hs, hv, hx, hy, ht⟩
    · injection e with e3 e0 _ e1 e2
      subst e3 e0 e1 e2
      simp only [isAtom, decide_eq_true_eq] at hc
      have q1 : holdsB G fs (.node sg 0 u .nil .nil) i = if sg = 84 then true else G.m i sg := by
        rw [holdsB, if_neg (by omega), if_neg (by omega), if_neg (by omega), if_neg (by omega)]
      have q2 : sat G fs (.node sg 0 u .nil .nil) i ↔ if sg = 84 then True else G.m i sg = true := by
        rw [sat, if_neg (by omega), if_neg (by omega), if_neg (by omega), if_neg (by omega), if_neg (by omega), if_neg (by omega)]
      rw [q1, q2]
      by_cases h84 : sg = 84
      · rw [if_pos h84, if_pos h84]; simp
      · rw [if_neg h84, if_neg h84]
    · injection e with e3 e0 _ e1 e2
      subst e3 e0 e1 e2
      rw [holdsB, sat, if_pos rfl, if_pos rfl, ← ihl hx i hi]
      simp
    · injection e with e3 e0 _ e1 e2
      subst e3 e0 e1 e2
      rcases hs with rfl | rfl
      · rw [holdsB, sat, if_neg (by omega), if_pos rfl, if_neg (by omega), if_pos rfl, ← ihl hx i hi, ← ihr hy i hi]
        simp
      · rw [holdsB, sat, if_neg (by omega), if_neg (by omega), if_pos rfl, if_neg (by omega), if_neg (by omega), if_pos rfl, ← ihl hx i hi, ← ihr hy i hi]
        simp
    · injection e with e3 e0 _ e1 e2
      subst e3 e0 e1 e2
      exact key (.inl rfl) hv hx (.inr ⟨rfl, rfl⟩)
    · injection e with e3 e0 _ e1 e2
      subst e3 e0 e1 e2
      exact key (.inr hs) hv hx (.inl hy)

end

end Go.Proofs.Ytcfbfdjmcabnkaa.Fw

/- SETS OF STATES AS THE PROGRAM RECKONS THEM. Nothing of the dump. -/
namespace Go.Proofs.Ytcfbfdjmcabnkaa.Fw
open Go.Deep (BT)
set_option linter.unusedVariables false

/-! ### Short walks -/
theorem pigeon : ∀ (n : Nat) (f : Nat → Nat), (∀ k, k ≤ n → f k < n) → ∃ i j, i < j ∧ j ≤ n ∧ f i = f j := by
  intro n
  induction n with
  | zero => intro f h; exact absurd (h 0 (Nat.le_refl _)) (by omega)
  | succ n ih =>
    intro f h
    by_cases hx : ∃ i, i ≤ n ∧ f i = f (n + 1)
    · obtain ⟨i, hi, he⟩ := hx
      exact ⟨i, n + 1, by omega, Nat.le_refl _, he⟩
    · have hne : ∀ i, i ≤ n → f i ≠ f (n + 1) := fun i hi he => hx ⟨i, hi, he⟩
      obtain ⟨i, j, hij, hj, he⟩ := ih (fun k => if f k = n then f (n + 1) else f k) (by
        intro k hk
        have h1 := h k (by omega)
        have h2 := h (n + 1) (Nat.le_refl _)
        have h3 := hne k hk
        show (if f k = n then f (n + 1) else f k) < n
        split <;> omega)
      refine ⟨i, j, hij, by omega, ?_⟩
      have h1 := hne i (by omega)
      have h2 := hne j (by omega)
      split at he <;> split at he <;> omega

/-- a walk without what lies between two equal places -/
theorem walk_cut1 {e : Nat → Nat → Bool} {S : Nat → Prop} {i j m a b : Nat} {p : Nat → Nat} (h : Walk e S i j m p) (hab : a < b) (hb : b ≤ m) (he : p a = p b) :
    ∃ p', Walk e S i j (m - (b - a)) p' := by
  obtain ⟨h0, h1, h2⟩ := h
  refine ⟨fun k => if k < a then p k else p (k + (b - a)), ?_, ?_, ?_⟩
  · show (if 0 < a then p 0 else p (0 + (b - a))) = i
    split
    · exact h0
    · have : a = 0 := by omega
      subst this
      rw [show 0 + (b - 0) = b from by omega, ← he]; exact h0
  · show (if m - (b - a) < a then p (m - (b - a)) else p (m - (b - a) + (b - a))) = j
    rw [if_neg (by omega), show m - (b - a) + (b - a) = m from by omega]; exact h1
  · intro k hk
    show S (if k < a then p k else p (k + (b - a))) ∧ e (if k < a then p k else p (k + (b - a))) (if k + 1 < a then p (k + 1) else p (k + 1 + (b - a))) = true
    by_cases h3 : k < a
    · rw [if_pos h3]
      by_cases h4 : k + 1 < a
      · rw [if_pos h4]; exact h2 k (by omega)
      · rw [if_neg h4, show k + 1 + (b - a) = b from by omega, ← he]
        have := h2 k (by omega)
        rw [show k + 1 = a from by omega] at this
        exact this
    · rw [if_neg h3, if_neg (by omega), show k + 1 + (b - a) = k + (b - a) + 1 from by omega]
      exact h2 (k + (b - a)) (by omega)

theorem walk_cut {e : Nat → Nat → Bool} {S : Nat → Prop} (ok : ∀ i j, e i j = true → i < 6 ∧ j < 6) : ∀ (m i j : Nat) (p : Nat → Nat), Walk e S i j m p → ∃ m' p', m' ≤ 5 ∧ Walk e S i j m' p' := by
  intro m
  induction m using Nat.strongRecOn with
  | ind m ih =>
    intro i j p h
    by_cases hm : m ≤ 5
    · exact ⟨m, p, hm, h⟩
    · obtain ⟨a, b, hab, hb, he⟩ := pigeon 6 p (by
        intro k hk
        exact (show p k < 6 from by
          rcases Nat.lt_or_ge k m with h1 | h1
          · exact (ok _ _ (h.2.2 k h1).2).1
          · have h2 := (ok _ _ (h.2.2 (k - 1) (by omega)).2).2
            rw [show k - 1 + 1 = k from by omega] at h2
            exact h2))
      obtain ⟨p', h'⟩ := walk_cut1 h hab (by omega) he
      exact ih (m - (b - a)) (by omega) i j p' h'

/-! ### The program's sets -/
def any6 (p : Nat → Bool) : Bool := (List.range 6).any p
theorem any6_iff {p : Nat → Bool} : any6 p = true ↔ ∃ j, j < 6 ∧ p j = true := by simp [any6, List.any_eq_true]

def ahd (e : Nat → Nat → Bool) (goal : Nat → Bool) (i : Nat) : Bool := any6 fun j => e i j && goal j
def rea (e : Nat → Nat → Bool) (a b : Nat → Bool) : Nat → Nat → Bool
  | 0, i => b i
  | k + 1, i => rea e a b k i || (a i && ahd e (rea e a b k) i)

theorem rea_walk {e : Nat → Nat → Bool} (ok : ∀ i j, e i j = true → i < 6 ∧ j < 6) {a b : Nat → Bool} : ∀ k i, rea e a b k i = true ↔ ∃ m p j, m ≤ k ∧ Walk e (fun x => a x = true) i j m p ∧ b j = true := by
  intro k
  induction k with
  | zero =>
    intro i
    constructor
    · intro h
      exact ⟨0, fun _ => i, i, Nat.le_refl _, ⟨rfl, rfl, fun k hk => by omega⟩, h⟩
    · rintro ⟨m, p, j, hm, ⟨h0, h1, _⟩, hb⟩
      have : m = 0 := by omega
      subst this
      rw [← h1, h0] at hb
      exact hb
  | succ k ih =>
    intro i
    rw [rea, Bool.or_eq_true, Bool.and_eq_true, ahd, any6_iff]
    constructor
    · rintro (h | ⟨ha, j, hj, h⟩)
      · obtain ⟨m, p, j, hm, h⟩ := (ih i).1 h
        exact ⟨m, p, j, by omega, h⟩
      · rw [Bool.and_eq_true] at h
        obtain ⟨m, p, l, hm, hw, hb⟩ := (ih j).1 h.2
        have hs : Walk e (fun x => a x = true) i j 1 (fun t => if t = 0 then i else j) := ⟨rfl, rfl, fun t ht => by
          obtain rfl : t = 0 := by omega
          exact ⟨ha, h.1⟩⟩
        exact ⟨1 + m, _, l, by omega, hs.glue hw, hb⟩
    · rintro ⟨m, p, j, hm, hw, hb⟩
      by_cases h0 : m = 0
      · exact .inl ((ih i).2 ⟨m, p, j, by omega, hw, hb⟩)
      · obtain ⟨w0, w1, w2⟩ := hw
        have hs := w2 0 (by omega)
        rw [w0] at hs
        refine .inr ⟨hs.1, p (0 + 1), (ok _ _ hs.2).2, ?_⟩
        rw [Bool.and_eq_true]
        refine ⟨hs.2, (ih _).2 ⟨m - 1, fun t => p (t + 1), j, by omega, ⟨rfl, ?_, fun t ht => w2 (t + 1) (by omega)⟩, hb⟩⟩
        show p (m - 1 + 1) = j
        rw [show m - 1 + 1 = m from by omega]; exact w1

theorem rea_iff {e : Nat → Nat → Bool} (ok : ∀ i j, e i j = true → i < 6 ∧ j < 6) {a b : Nat → Bool} {i : Nat} : rea e a b 5 i = true ↔ b i = true ∨ ∃ j, b j = true ∧ Rch e (fun x => a x = true) i j := by
  rw [rea_walk ok]
  constructor
  · rintro ⟨m, p, j, _, hw, hb⟩
    by_cases h0 : m = 0
    · subst h0
      obtain ⟨w0, w1, _⟩ := hw
      rw [← w1, w0] at hb
      exact .inl hb
    · exact .inr ⟨j, hb, m, p, by omega, hw⟩
  · rintro (h | ⟨j, hb, m, p, hm, hw⟩)
    · exact ⟨0, fun _ => i, i, by omega, ⟨rfl, rfl, fun k hk => by omega⟩, h⟩
    · obtain ⟨m', p', hm', hw'⟩ := walk_cut ok m i j p hw
      exact ⟨m', p', j, hm', hw', hb⟩

section
variable (G : Gph) (fs : List Nat)

/-- edges within a set -/
def inE (S : Nat → Bool) (i j : Nat) : Bool := G.e i j && S i && S j
/-- the table of steps within a set, behind k states -/
def stp (S : Nat → Bool) : Nat → Nat → Nat → Bool
  | 0, i, j => inE G S i j
  | k + 1, i, j => stp S k i j || (stp S k i k && stp S k k j)
def mts (T : Nat → Nat → Bool) (c f : Nat) : Bool := any6 fun d => T c d && T d c && G.m d f
def rnd (T : Nat → Nat → Bool) (c : Nat) : Bool := T c c && fs.all fun f => mts G T c f
def stayP (S : Nat → Bool) (i : Nat) : Bool := rea G.e S (rnd G fs (stp G S 6)) 5 i
def begP (i : Nat) : Bool := stayP G fs (fun _ => true) i
def someP (sg : Nat) (a b : Nat → Bool) (i : Nat) : Bool :=
  if sg = 88 then ahd G.e (fun j => a j && begP G fs j) i
  else if sg = 85 then rea G.e a (fun j => b j && begP G fs j) 5 i
  else rea G.e b (fun j => (a j && b j) && begP G fs j) 5 i || stayP G fs b i
def everyP (sg : Nat) (a b : Nat → Bool) (i : Nat) : Bool := !(someP G fs (flip sg) (fun j => !(a j)) (fun j => !(b j)) i)
def holdsP : Fm → Nat → Bool
  | .nil, _ => false
  | .node sg wy _ l r, i =>
    if sg = 33 then !(holdsP l i)
    else if sg = 38 then holdsP l i && holdsP r i
    else if sg = 43 then holdsP l i || holdsP r i
    else if sg = 88 ∨ sg = 85 ∨ sg = 82 then
      (if wy = 65 then everyP G fs sg (holdsP l) (holdsP r) i else someP G fs sg (holdsP l) (holdsP r) i)
    else if sg = 84 then true
    else G.m i sg

variable {G fs}

theorem stp_via {S : Nat → Bool} : ∀ k i j, stp G S k i j = true ↔ Via (inE G S) (fun _ => True) k i j := by
  intro k
  induction k with
  | zero => intro i j; rw [Via.zero]; simp [stp]
  | succ k ih => intro i j; rw [Via.succ, ← ih, ← ih, ← ih]; simp [stp]

theorem in_ok (ok : G.ok) (hn : G.n ≤ 6) (S : Nat → Bool) : ∀ i j, inE G S i j = true → i < 6 ∧ j < 6 := by
  intro i j h
  simp only [inE, Bool.and_eq_true] at h
  have := ok i j h.1.1
  omega
theorem e_ok (ok : G.ok) (hn : G.n ≤ 6) : ∀ i j, G.e i j = true → i < 6 ∧ j < 6 := by
  intro i j h
  have := ok i j h
  omega

/-- steps within a set: by edges of the graph, and both ends in it -/
theorem in_rch {S : Nat → Bool} {i j : Nat} : Rch (inE G S) (fun _ => True) i j ↔ Rch G.e (fun x => S x = true) i j ∧ S j = true := by
  constructor
  · rintro ⟨m, p, hm, h0, h1, h2⟩
    have hx : ∀ k, k < m → (G.e (p k) (p (k + 1)) = true ∧ S (p k) = true) ∧ S (p (k + 1)) = true := fun k hk => by
      have := (h2 k hk).2
      simpa only [inE, Bool.and_eq_true] using this
    refine ⟨⟨m, p, hm, h0, h1, fun k hk => ⟨(hx k hk).1.2, (hx k hk).1.1⟩⟩, ?_⟩
    have := (hx (m - 1) (by omega)).2
    rw [show m - 1 + 1 = m from by omega, h1] at this
    exact this
  · rintro ⟨⟨m, p, hm, h0, h1, h2⟩, hj⟩
    refine ⟨m, p, hm, h0, h1, fun k hk => ⟨trivial, ?_⟩⟩
    simp only [inE, Bool.and_eq_true]
    refine ⟨⟨(h2 k hk).2, (h2 k hk).1⟩, ?_⟩
    by_cases hl : k + 1 = m
    · rw [hl, h1]; exact hj
    · exact (h2 (k + 1) (by omega)).1

theorem stp_iff (ok : G.ok) (hn : G.n ≤ 6) {S : Nat → Bool} {i j : Nat} : stp G S 6 i j = true ↔ Rch G.e (fun x => S x = true) i j ∧ S j = true := by
  rw [stp_via, via_all (in_ok ok hn S), in_rch]

theorem rnd_iff (ok : G.ok) (hn : G.n ≤ 6) {S : Nat → Bool} {c : Nat} : rnd G fs (stp G S 6) c = true ↔ Loop G fs (fun x => S x = true) c := by
  unfold rnd Loop mts
  rw [Bool.and_eq_true, stp_iff ok hn, List.all_eq_true]
  constructor
  · rintro ⟨⟨h1, h2⟩, h3⟩
    refine ⟨h2, h1, fun f hf => ?_⟩
    obtain ⟨d, _, hd⟩ := any6_iff.1 (h3 f hf)
    rw [Bool.and_eq_true, Bool.and_eq_true, stp_iff ok hn, stp_iff ok hn] at hd
    exact ⟨d, hd.1.1.2, hd.2, hd.1.1.1, hd.1.2.1⟩
  · rintro ⟨h1, h2, h3⟩
    refine ⟨⟨h2, h1⟩, fun f hf => ?_⟩
    obtain ⟨d, h4, h5, h6, h7⟩ := h3 f hf
    refine any6_iff.2 ⟨d, ?_, ?_⟩
    · have := (rch_lt ok h7).1
      omega
    · rw [Bool.and_eq_true, Bool.and_eq_true, stp_iff ok hn, stp_iff ok hn]
      exact ⟨⟨⟨h6, h4⟩, h7, h1⟩, h5⟩

theorem stayP_iff (ok : G.ok) (hn : G.n ≤ 6) {S : Nat → Bool} {i : Nat} : stayP G fs S i = true ↔ Stay G fs (fun x => S x = true) i := by
  rw [stay_iff ok, stayP, rea_iff (e_ok ok hn)]
  constructor
  · rintro (h | ⟨j, h, hr⟩)
    · have := (rnd_iff ok hn).1 h
      exact ⟨this.1, i, .inl rfl, this⟩
    · exact ⟨hr.here, j, .inr hr, (rnd_iff ok hn).1 h⟩
  · rintro ⟨h1, c, h2, h3⟩
    rcases h2 with rfl | h2
    · exact .inl ((rnd_iff ok hn).2 h3)
    · exact .inr ⟨c, (rnd_iff ok hn).2 h3, h2⟩

theorem begP_iff (ok : G.ok) (hn : G.n ≤ 6) {i : Nat} : begP G fs i = true ↔ Live G fs i := by
  rw [begP, stayP_iff ok hn, live_stay]
  constructor
  · intro h; exact stay_mono h (fun _ _ => trivial)
  · intro h; exact stay_mono h (fun _ _ => rfl)

theorem someP_iff (ok : G.ok) (hn : G.n ≤ 6) {sg : Nat} {a b : Nat → Bool} {i : Nat} : someP G fs sg a b i = true ↔ ∃ σ, FWay G fs i σ ∧ says sg (fun x => a x = true) (fun x => b x = true) σ := by
  unfold someP says
  by_cases h1 : sg = 88
  · simp only [h1, if_true]
    rw [ex_iff (A := fun x => a x = true), ahd, any6_iff]
    constructor
    · rintro ⟨j, _, h⟩
      rw [Bool.and_eq_true, Bool.and_eq_true, begP_iff ok hn] at h
      exact ⟨j, h.1, h.2.1, h.2.2⟩
    · rintro ⟨j, h1, h2, h3⟩
      refine ⟨j, by have := live_lt ok h3; omega, ?_⟩
      rw [Bool.and_eq_true, Bool.and_eq_true, begP_iff ok hn]
      exact ⟨h1, h2, h3⟩
  · simp only [if_neg h1]
    by_cases h2 : sg = 85
    · simp only [h2, if_true]
      rw [eu_iff (A := fun x => a x = true) (B := fun x => b x = true), rea_iff (e_ok ok hn)]
      simp only [Bool.and_eq_true, begP_iff ok hn]
    · simp only [if_neg h2]
      rw [er_iff (A := fun x => a x = true) (B := fun x => b x = true), Bool.or_eq_true, rea_iff (e_ok ok hn), stayP_iff ok hn]
      simp only [Bool.and_eq_true, begP_iff ok hn]
      constructor
      · rintro (h | h)
        · exact .inr h
        · exact .inl h
      · rintro (h | h)
        · exact .inr h
        · exact .inl h

theorem some_eq (ok : G.ok) (hn : G.n ≤ 6) {sg : Nat} {a b a' b' : Nat → Bool} (ha : ∀ j, j < G.n → a j = a' j) (hb : ∀ j, j < G.n → b j = b' j) (i : Nat) : someP G fs sg a b i = someB G fs sg a' b' i := by
  rw [Bool.eq_iff_iff, someP_iff ok hn, someB_iff ok]
  have hx : ∀ σ, FWay G fs i σ → ∀ k, σ k < G.n := fun σ hσ k => (ok _ _ (hσ.step k)).1
  constructor
  · rintro ⟨σ, hσ, h⟩
    exact ⟨σ, hσ, (says_congr (fun k => by rw [ha _ (hx σ hσ k)]) (fun k => by rw [hb _ (hx σ hσ k)])).1 h⟩
  · rintro ⟨σ, hσ, h⟩
    exact ⟨σ, hσ, (says_congr (fun k => by rw [ha _ (hx σ hσ k)]) (fun k => by rw [hb _ (hx σ hσ k)])).2 h⟩

/-- WHAT THE PROGRAM RECKONS IS WHAT THE DOCUMENT'S OWN ANSWER RECKONS -/
theorem holds_eq (ok : G.ok) (hn : G.n ≤ 6) : ∀ (t : Fm), good t → ∀ i, i < G.n → holdsP G fs t i = holdsB G fs t i := by
  intro t
  induction t with
  | nil => intro h; exact absurd h (by simp [good])
  | node sg wy u l r ihl ihr =>
    intro h i hi
    rcases good_cases h with ⟨c, e, hc, ht⟩ | ⟨x, e, hx, ht⟩ | ⟨s, x, y, e, hs, hx, hy, ht⟩ | ⟨v, x, e, hv, hx, ht⟩ | ⟨s, v, x, y, e, hs, hv, hx, hy, ht⟩
    · injection e with e3 e0 _ e1 e2
      subst e3 e0 e1 e2
      simp only [isAtom, decide_eq_true_eq] at hc
      have q1 : ¬ sg = 33 := by omega
      have q2 : ¬ sg = 38 := by omega
      have q3 : ¬ sg = 43 := by omega
      have q4 : ¬ (sg = 88 ∨ sg = 85 ∨ sg = 82) := by omega
      simp only [holdsP, holdsB, if_neg q1, if_neg q2, if_neg q3, if_neg q4]
    · injection e with e3 e0 _ e1 e2
      subst e3 e0 e1 e2
      rw [holdsP, holdsB, if_pos rfl, if_pos rfl, ihl hx i hi]
    · injection e with e3 e0 _ e1 e2
      subst e3 e0 e1 e2
      rw [holdsP, holdsB, ihl hx i hi, ihr hy i hi]
      rcases hs with rfl | rfl <;> simp
    · injection e with e3 e0 _ e1 e2
      subst e3 e0 e1 e2
      have k1 : ∀ b b', someP G fs 88 (holdsP G fs l) b i = someB G fs 88 (fun j => decide (j < G.n) && holdsB G fs l j) b' i := fun b b' => by
        rw [show someP G fs 88 (holdsP G fs l) b i = someP G fs 88 (holdsP G fs l) b' i from by simp [someP]]
        exact some_eq ok hn (fun j hj => by simp [hj, ihl hx j hj]) (fun _ _ => rfl) i
      have k2 : ∀ b b', someP G fs 88 (fun j => !(holdsP G fs l j)) b i = someB G fs 88 (fun j => decide (j < G.n) && !(holdsB G fs l j)) b' i := fun b b' => by
        rw [show someP G fs 88 (fun j => !(holdsP G fs l j)) b i = someP G fs 88 (fun j => !(holdsP G fs l j)) b' i from by simp [someP]]
        exact some_eq ok hn (fun j hj => by simp [hj, ihl hx j hj]) (fun _ _ => rfl) i
      have q1 : ¬ 88 = 33 := by omega
      have q2 : ¬ 88 = 38 := by omega
      have q3 : ¬ 88 = 43 := by omega
      simp only [holdsP, holdsB, if_neg q1, if_neg q2, if_neg q3, true_or, if_true]
      rcases hv with rfl | rfl
      · rw [if_neg (by omega), if_pos rfl]; exact k1 _ _
      · rw [if_pos rfl, if_neg (by omega)]
        exact congrArg (fun x => !x) (k2 _ _)
    · injection e with e3 e0 _ e1 e2
      subst e3 e0 e1 e2
      have k1 : someP G fs sg (holdsP G fs l) (holdsP G fs r) i = someB G fs sg (fun j => decide (j < G.n) && holdsB G fs l j) (fun j => decide (j < G.n) && holdsB G fs r j) i :=
        some_eq ok hn (fun j hj => by simp [hj, ihl hx j hj]) (fun j hj => by simp [hj, ihr hy j hj]) i
      have k2 : someP G fs (flip sg) (fun j => !(holdsP G fs l j)) (fun j => !(holdsP G fs r j)) i = someB G fs (flip sg) (fun j => decide (j < G.n) && !(holdsB G fs l j)) (fun j => decide (j < G.n) && !(holdsB G fs r j)) i :=
        some_eq ok hn (fun j hj => by simp [hj, ihl hx j hj]) (fun j hj => by simp [hj, ihr hy j hj]) i
      have q1 : ¬ sg = 33 := by omega
      have q2 : ¬ sg = 38 := by omega
      have q3 : ¬ sg = 43 := by omega
      have q4 : (sg = 88 ∨ sg = 85 ∨ sg = 82) := by omega
      simp only [holdsP, holdsB, if_neg q1, if_neg q2, if_neg q3, if_pos q4]
      rcases hv with rfl | rfl
      · rw [if_neg (by omega), if_pos rfl]; exact k1
      · rw [if_pos rfl, if_neg (by omega), everyP, k2]

end
end Go.Proofs.Ytcfbfdjmcabnkaa.Fw

