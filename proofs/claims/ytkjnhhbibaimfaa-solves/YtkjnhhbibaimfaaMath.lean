/- THE PLAIN MATHEMATICS: texts as lists of bytes; reading a graph. Nothing of the dump. -/
namespace Go.Proofs.Ytkjnhhbibaimfaa.Fw

/-- how many of the leading bytes rise, the first from lo on, each at most hi -/
def scan (hi : Nat) : Nat → List UInt8 → Nat
  | _, [] => 0
  | lo, c :: r => if lo ≤ c.toNat ∧ c.toNat ≤ hi then scan hi (c.toNat + 1) r + 1 else 0

/-- what is left of a text from a place on -/
def tl (s : ByteArray) (k : Nat) : List UInt8 := s.data.toList.drop k

theorem tl_cons (s : ByteArray) (k : Nat) (h : k < s.size) : tl s k = s[k] :: tl s (k + 1) := by
  unfold tl
  rw [List.drop_eq_getElem_cons (by simpa using h)]
  rfl

theorem tl_nil (s : ByteArray) (k : Nat) (h : s.size ≤ k) : tl s k = [] := by
  unfold tl
  exact List.drop_eq_nil_of_le (by simpa using h)

theorem scan_nil (hi lo : Nat) : scan hi lo [] = 0 := rfl

theorem scan_yes (s : ByteArray) (hi lo k : Nat) (h : k < s.size) (h1 : lo ≤ s[k].toNat) (h2 : s[k].toNat ≤ hi) : scan hi lo (tl s k) = scan hi (s[k].toNat + 1) (tl s (k + 1)) + 1 := by
  rw [tl_cons s k h]
  simp [scan, h1, h2]

theorem scan_no (s : ByteArray) (hi lo k : Nat) (h : k < s.size) (h1 : ¬ (lo ≤ s[k].toNat ∧ s[k].toNat ≤ hi)) : scan hi lo (tl s k) = 0 := by
  rw [tl_cons s k h]
  unfold scan
  rw [if_neg h1]

theorem scan_end (s : ByteArray) (hi lo k : Nat) (h : s.size ≤ k) : scan hi lo (tl s k) = 0 := by
  rw [tl_nil s k h]
  rfl

theorem scan_le (hi : Nat) (l : List UInt8) : ∀ lo, scan hi lo l ≤ l.length := by
  induction l with
  | nil => intro lo; exact Nat.le_refl _
  | cons c r ih =>
    intro lo
    unfold scan
    split
    · have := ih (c.toNat + 1); simp; omega
    · omega

theorem tl_length (s : ByteArray) (k : Nat) : (tl s k).length = s.size - k := by
  unfold tl
  simp

theorem scan_size (s : ByteArray) (hi lo k : Nat) (h : k ≤ s.size) : k + scan hi lo (tl s k) ≤ s.size := by
  have := scan_le hi (tl s k) lo
  rw [tl_length] at this
  omega

theorem tl_extract (s : ByteArray) (p : Nat) : tl (s.extract p s.size) 0 = tl s p := by
  unfold tl
  rw [ByteArray.data_extract, Array.toList_extract]
  show List.drop 0 ((s.data.toList.extract p s.data.size)) = _
  rw [List.drop_zero, List.extract_eq_take_drop]
  exact List.take_of_length_le (by simp)

/-- does the byte c stand at a place? -/
def isAt (s : ByteArray) (p c : Nat) : Bool := decide (∃ h : p < s.size, s[p].toNat = c)

theorem isAt_yes {s : ByteArray} {p c : Nat} (h : p < s.size) (hc : s[p].toNat = c) : isAt s p c = true := by simp [isAt, h, hc]
theorem isAt_no {s : ByteArray} {p c : Nat} (h : p < s.size) (hc : ¬ s[p].toNat = c) : isAt s p c = false := by simp [isAt, h, hc]
theorem isAt_end {s : ByteArray} {p c : Nat} (h : ¬ p < s.size) : isAt s p c = false := by simp [isAt, h]
theorem isAt_lt {s : ByteArray} {p c : Nat} (h : isAt s p c = true) : p < s.size := by
  simp only [isAt, decide_eq_true_eq] at h
  exact h.1

/-- where the marks of the state that begins at p end -/
def arrow (s : ByteArray) (p : Nat) : Nat := p + scan 122 97 (tl s p)
/-- where its next states end -/
def stop (s : ByteArray) (p : Nat) : Nat := arrow s p + 1 + scan 53 48 (tl s (arrow s p + 1))

theorem arrow_le {s : ByteArray} {p : Nat} (h : p ≤ s.size) : arrow s p ≤ s.size := scan_size s 122 97 p h
theorem le_arrow (s : ByteArray) (p : Nat) : p ≤ arrow s p := Nat.le_add_right _ _
theorem stop_le {s : ByteArray} {p : Nat} (h : arrow s p < s.size) : stop s p ≤ s.size := scan_size s 53 48 _ (by omega)
theorem lt_stop (s : ByteArray) (p : Nat) : arrow s p + 1 ≤ stop s p := Nat.le_add_right _ _

/-- n states at most, from p on: whether they are read; the place behind or at fault; where each begins -/
def run (s : ByteArray) : Nat → Nat → Bool × Nat × List Nat
  | 0, p => (false, p, [])
  | n + 1, p =>
    if isAt s (arrow s p) 62 = true then
      if isAt s (stop s p) 59 = true then
        if stop s p + 1 = s.size then (true, s.size, [p])
        else ((run s n (stop s p + 1)).1, (run s n (stop s p + 1)).2.1, p :: (run s n (stop s p + 1)).2.2)
      else (false, stop s p, [])
    else (false, arrow s p, [])

/-- what was read ahead of it, too -/
def cat (acc : List Nat) (r : Bool × Nat × List Nat) : Bool × Nat × List Nat := (r.1, r.2.1, acc ++ r.2.2)

/-- how far the reading has come: acc is read, p is the place behind it -/
def Inv (s : ByteArray) (acc : List Nat) (p : Nat) : Prop :=
  ((p < s.size ∨ acc = []) ∧ run s 6 0 = cat acc (run s (6 - acc.length) p)) ∨ (p = s.size ∧ acc ≠ [] ∧ run s 6 0 = (true, s.size, acc))

theorem inv_start (s : ByteArray) : Inv s [] 0 := .inl ⟨.inr rfl, by simp [cat]⟩

theorem inv_end {s : ByteArray} {acc : List Nat} {p : Nat} (h : Inv s acc p) (h1 : ¬ p < s.size) (h2 : acc ≠ []) : run s 6 0 = (true, s.size, acc) := by
  rcases h with ⟨h, _⟩ | ⟨_, _, h⟩
  · rcases h with h | h
    · exact absurd h h1
    · exact absurd h h2
  · exact h

theorem inv_run {s : ByteArray} {acc : List Nat} {p : Nat} (h : Inv s acc p) (h1 : p < s.size ∨ acc = []) : run s 6 0 = cat acc (run s (6 - acc.length) p) := by
  rcases h with ⟨_, h⟩ | ⟨h3, h4, _⟩
  · exact h
  · rcases h1 with h1 | h1
    · omega
    · exact absurd h1 h4

theorem inv_full {s : ByteArray} {acc : List Nat} {p : Nat} (h : Inv s acc p) (h1 : p < s.size ∨ acc = []) (h6 : acc.length = 6) : (run s 6 0).1 = false ∧ (run s 6 0).2.1 = p := by
  rw [inv_run h h1, h6]
  exact ⟨rfl, rfl⟩

theorem inv_arrow {s : ByteArray} {acc : List Nat} {p : Nat} (h : Inv s acc p) (h1 : p < s.size ∨ acc = []) (h6 : acc.length < 6) (hf : isAt s (arrow s p) 62 = false) : (run s 6 0).1 = false ∧ (run s 6 0).2.1 = arrow s p := by
  rw [inv_run h h1]
  obtain ⟨n, hn⟩ : ∃ n, 6 - acc.length = n + 1 := ⟨5 - acc.length, by omega⟩
  rw [hn]
  simp [cat, run, hf]

theorem inv_stop {s : ByteArray} {acc : List Nat} {p : Nat} (h : Inv s acc p) (h1 : p < s.size ∨ acc = []) (h6 : acc.length < 6) (ha : isAt s (arrow s p) 62 = true) (hf : isAt s (stop s p) 59 = false) : (run s 6 0).1 = false ∧ (run s 6 0).2.1 = stop s p := by
  rw [inv_run h h1]
  obtain ⟨n, hn⟩ : ∃ n, 6 - acc.length = n + 1 := ⟨5 - acc.length, by omega⟩
  rw [hn]
  simp [cat, run, ha, hf]

theorem inv_next {s : ByteArray} {acc : List Nat} {p : Nat} (h : Inv s acc p) (h1 : p < s.size ∨ acc = []) (h6 : acc.length < 6) (ha : isAt s (arrow s p) 62 = true) (hf : isAt s (stop s p) 59 = true) : Inv s (acc ++ [p]) (stop s p + 1) := by
  have hr := inv_run h h1
  obtain ⟨n, hn⟩ : ∃ n, 6 - acc.length = n + 1 := ⟨5 - acc.length, by omega⟩
  have hlt := isAt_lt hf
  rw [hn] at hr
  by_cases he : stop s p + 1 = s.size
  · right
    refine ⟨he, by simp, ?_⟩
    rw [hr]
    simp [cat, run, ha, hf, he]
  · left
    refine ⟨.inl (by omega), ?_⟩
    have h5 : 6 - (acc ++ [p]).length = n := by simp; omega
    rw [hr, h5]
    simp [cat, run, ha, hf, he]

/-- the byte at a place -/
def byteAt (s : ByteArray) (k : Nat) : Nat := if h : k < s.size then s[k].toNat else 0

theorem byteAt_lt {s : ByteArray} {k : Nat} (h : k < s.size) : byteAt s k = s[k].toNat := by simp [byteAt, h]

/-- how many next states the state at p has; where they begin -/
def many (s : ByteArray) (p : Nat) : Nat := scan 53 48 (tl s (arrow s p + 1))

/-- has the state at p a next state from n on? -/
def astB (s : ByteArray) (n p : Nat) : Bool := (List.range (many s p)).any fun k => decide (n + 48 ≤ byteAt s (arrow s p + 1 + k))

/-- the first state that has -/
def firstBad (s : ByteArray) (n : Nat) : Nat → List Nat → Option Nat
  | _, [] => none
  | i, p :: r => if astB s n p = true then some i else firstBad s n (i + 1) r

/-- what P3 asks of a text of at most 210 bytes -/
def chk (s : ByteArray) : Nat × Nat :=
  if (run s 6 0).1 = true then
    match firstBad s (run s 6 0).2.2.length 0 (run s 6 0).2.2 with
    | some i => (3, i)
    | none => (0, 0)
  else (2, (run s 6 0).2.1)

theorem scan_range (hi : Nat) (l : List UInt8) : ∀ lo k, k < scan hi lo l → ∃ h : k < l.length, lo ≤ l[k].toNat ∧ l[k].toNat ≤ hi := by
  induction l with
  | nil => intro lo k hk; simp [scan] at hk
  | cons c r ih =>
    intro lo k hk
    unfold scan at hk
    split at hk
    · rename_i hc
      cases k with
      | zero => exact ⟨by simp, hc⟩
      | succ k =>
        obtain ⟨h, h1, h2⟩ := ih (c.toNat + 1) k (by omega)
        exact ⟨by simp; omega, by simp; omega, by simp; omega⟩
    · omega

theorem byte_range (s : ByteArray) (hi lo p k : Nat) (h : k < scan hi lo (tl s p)) : ∃ hp : p + k < s.size, lo ≤ s[p + k].toNat ∧ s[p + k].toNat ≤ hi := by
  obtain ⟨h1, h2, h3⟩ := scan_range hi (tl s p) lo k h
  have hl : p + k < s.size := by rw [tl_length] at h1; omega
  refine ⟨hl, ?_⟩
  have e : (tl s p)[k] = s[p + k] := by
    have h4 : (s.data.toList.drop p)[k]'h1 = s.data.toList[p + k]'(by simpa using hl) := List.getElem_drop
    exact h4
  rw [e] at h2 h3
  exact ⟨h2, h3⟩

theorem many_stop (s : ByteArray) (p : Nat) : arrow s p + 1 + many s p = stop s p := rfl

theorem astB_yes {s : ByteArray} {n p k : Nat} (hk : k < many s p) (h : n + 48 ≤ byteAt s (arrow s p + 1 + k)) : astB s n p = true := by
  simp only [astB, List.any_eq_true, List.mem_range, decide_eq_true_eq]
  exact ⟨k, hk, h⟩

theorem astB_no {s : ByteArray} {n p : Nat} (h : ∀ k, k < many s p → ¬ n + 48 ≤ byteAt s (arrow s p + 1 + k)) : astB s n p = false := by
  rw [Bool.eq_false_iff]
  intro hc
  simp only [astB, List.any_eq_true, List.mem_range, decide_eq_true_eq] at hc
  obtain ⟨k, hk, hx⟩ := hc
  exact h k hk hx

theorem firstBad_yes {s : ByteArray} {n i p : Nat} {l : List Nat} (hi : l[i]? = some p) (h : firstBad s n 0 l = firstBad s n i (l.drop i)) (hb : astB s n p = true) : firstBad s n 0 l = some i := by
  obtain ⟨hlt, hp⟩ := List.getElem?_eq_some_iff.1 hi
  rw [h, List.drop_eq_getElem_cons hlt, hp]
  simp [firstBad, hb]

theorem firstBad_step {s : ByteArray} {n i p : Nat} {l : List Nat} (hi : l[i]? = some p) (h : firstBad s n 0 l = firstBad s n i (l.drop i)) (hb : astB s n p = false) : firstBad s n 0 l = firstBad s n (i + 1) (l.drop (i + 1)) := by
  obtain ⟨hlt, hp⟩ := List.getElem?_eq_some_iff.1 hi
  rw [h, List.drop_eq_getElem_cons hlt, hp]
  simp [firstBad, hb]

theorem firstBad_end {s : ByteArray} {n i : Nat} {l : List Nat} (hi : l.length ≤ i) (h : firstBad s n 0 l = firstBad s n i (l.drop i)) : firstBad s n 0 l = none := by
  rw [h, List.drop_eq_nil_of_le hi]
  rfl

theorem chk_fail {s : ByteArray} (h : (run s 6 0).1 = false) : chk s = (2, (run s 6 0).2.1) := by simp [chk, h]
theorem chk_bad {s : ByteArray} {i : Nat} (h : (run s 6 0).1 = true) (hf : firstBad s (run s 6 0).2.2.length 0 (run s 6 0).2.2 = some i) : chk s = (3, i) := by simp [chk, h, hf]
theorem chk_good {s : ByteArray} (h : (run s 6 0).1 = true) (hf : firstBad s (run s 6 0).2.2.length 0 (run s 6 0).2.2 = none) : chk s = (0, 0) := by simp [chk, h, hf]

/-- the states begin inside the text, and are at most so many -/
theorem run_starts (s : ByteArray) : ∀ (n p : Nat), p ≤ s.size → (run s n p).2.2.length ≤ n ∧ ∀ q ∈ (run s n p).2.2, arrow s q < s.size ∧ stop s q < s.size := by
  intro n
  induction n with
  | zero => intro p hp; simp [run]
  | succ n ih =>
    intro p hp
    unfold run
    split
    · rename_i ha
      split
      · rename_i hb
        have h1 := isAt_lt ha
        have h2 := isAt_lt hb
        split
        · refine ⟨by simp, ?_⟩
          intro q hq
          simp at hq
          subst hq
          exact ⟨h1, h2⟩
        · obtain ⟨h3, h4⟩ := ih (stop s p + 1) (by omega)
          refine ⟨by simp; omega, ?_⟩
          intro q hq
          simp only [List.mem_cons] at hq
          rcases hq with rfl | hq
          · exact ⟨h1, h2⟩
          · exact h4 q hq
      · simp
    · simp

theorem extract_get (s : ByteArray) (a b k : Nat) (h : k < (s.extract a b).size) : (s.extract a b)[k].toNat = byteAt s (a + k) := by
  have h2 : a + k < s.size := by rw [ByteArray.size_extract] at h; omega
  rw [byteAt_lt h2, ByteArray.getElem_extract]

theorem extract_get' (s T : ByteArray) (a b : Nat) (hT : T = s.extract a b) (k : Nat) (h : k < T.size) : T[k].toNat = byteAt s (a + k) := by
  subst hT
  exact extract_get s a b k h

end Go.Proofs.Ytkjnhhbibaimfaa.Fw
