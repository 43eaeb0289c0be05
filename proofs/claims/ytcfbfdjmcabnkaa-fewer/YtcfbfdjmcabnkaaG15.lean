import Derived.Test.YtcfbfdjmcabnkaaG14
import Derived.Test.YtcfbfdjmcabnkaaG9
namespace Go.Proofs.Ytcfbfdjmcabnkaa
open Fw
set_option linter.unusedVariables false

/-- rising bytes are read to their end -/
theorem scan_rise {hi : Nat} (hhi : hi < 256) {c : UInt8} {r : List UInt8} : ∀ (xs : List Nat) (lo : Nat), xs.Pairwise (· < ·) → (∀ x ∈ xs, lo ≤ x ∧ x ≤ hi) → (∀ lo', lo ≤ lo' → ¬ (lo' ≤ c.toNat ∧ c.toNat ≤ hi)) → scan hi lo (xs.map b8 ++ c :: r) = xs.length := by
  intro xs
  induction xs with
  | nil =>
    intro lo _ _ hc
    rw [List.map_nil, List.nil_append, scan, if_neg (hc lo (Nat.le_refl _))]
    rfl
  | cons x l ih =>
    intro lo hp hx hc
    obtain ⟨h1, h2⟩ := hx x (by simp)
    have hb : (b8 x).toNat = x := b8_nat (by omega)
    rw [List.map_cons, List.cons_append, scan, hb, if_pos ⟨h1, h2⟩]
    rw [List.pairwise_cons] at hp
    rw [ih (x + 1) hp.2 (fun y hy => ⟨hp.1 y hy, (hx y (by simp [hy])).2⟩) (fun lo' h => hc lo' (by omega))]
    rfl

theorem rise_filter (p : Nat → Bool) (n a : Nat) : (((List.range n).filter p).map (a + ·)).Pairwise (· < ·) := by
  rw [List.pairwise_map]
  exact (List.Pairwise.filter p List.pairwise_lt_range).imp fun h => by omega

/-- the marks p, q, r of a state; its next states -/
def markN (mk : Nat → Bool) : List Nat := ((List.range 3).filter mk).map (112 + ·)
def nextN (ed : Nat → Bool) (n : Nat) : List Nat := ((List.range n).filter ed).map (48 + ·)
def rowT (mk ed : Nat → Bool) (n : Nat) : List UInt8 := (markN mk).map b8 ++ 62 :: ((nextN ed n).map b8 ++ [59])
def rowsT (mk ed : Nat → Nat → Bool) (n : Nat) : Nat → Nat → List UInt8
  | 0, _ => []
  | m + 1, i => rowT (mk i) (ed i) n ++ rowsT mk ed n m (i + 1)

theorem markN_in {mk : Nat → Bool} : ∀ x ∈ markN mk, 97 ≤ x ∧ x ≤ 122 := by
  intro x hx
  simp only [markN, List.mem_map, List.mem_filter, List.mem_range] at hx
  obtain ⟨k, ⟨hk, _⟩, rfl⟩ := hx
  omega
theorem nextN_in {ed : Nat → Bool} {n : Nat} (hn : n ≤ 6) : ∀ x ∈ nextN ed n, 48 ≤ x ∧ x ≤ 53 := by
  intro x hx
  simp only [nextN, List.mem_map, List.mem_filter, List.mem_range] at hx
  obtain ⟨k, ⟨hk, _⟩, rfl⟩ := hx
  omega

theorem tl_add {s : ByteArray} {p : Nat} {a b : List UInt8} (h : tl s p = a ++ b) : tl s (p + a.length) = b := by
  unfold tl at h ⊢
  rw [← List.drop_drop, h, List.drop_left]
theorem isAt_tlK {s : ByteArray} {p : Nat} {c : UInt8} {r : List UInt8} (h : tl s p = c :: r) : isAt s p c.toNat = true := by
  have hlt : p < s.size := by
    rcases Nat.lt_or_ge p s.size with h1 | h1
    · exact h1
    · rw [tl_nil s p h1] at h; cases h
  rw [tl_cons s p hlt] at h
  injection h with h _
  exact isAt_yes hlt (by rw [h])

/-- one row is read -/
theorem row_read {s : ByteArray} {p n : Nat} {mk ed : Nat → Bool} {r : List UInt8} (hn : n ≤ 6) (h : tl s p = rowT mk ed n ++ r) :
    arrow s p = p + (markN mk).length ∧ many s p = (nextN ed n).length ∧ stop s p = p + (markN mk).length + 1 + (nextN ed n).length ∧ isAt s (arrow s p) 62 = true ∧ isAt s (stop s p) 59 = true ∧ tl s (stop s p + 1) = r
      ∧ tl s p = (markN mk).map b8 ++ 62 :: ((nextN ed n).map b8 ++ 59 :: r) ∧ tl s (arrow s p + 1) = (nextN ed n).map b8 ++ 59 :: r := by
  have h' : tl s p = (markN mk).map b8 ++ 62 :: ((nextN ed n).map b8 ++ 59 :: r) := by rw [h]; simp [rowT]
  have ha : arrow s p = p + (markN mk).length := by
    unfold arrow
    rw [h', scan_rise (by omega) (markN mk) 97 (rise_filter _ _ _) markN_in (fun lo' hl => by
      have : (62 : UInt8).toNat = 62 := rfl
      omega)]
  have h2 : tl s (arrow s p) = 62 :: ((nextN ed n).map b8 ++ 59 :: r) := by
    have := tl_add h'
    rw [List.length_map] at this
    rw [ha]; exact this
  have h3 : tl s (arrow s p + 1) = (nextN ed n).map b8 ++ 59 :: r := tl_add (a := [62]) h2
  have hm : many s p = (nextN ed n).length := by
    unfold many
    rw [h3, scan_rise (by omega) (nextN ed n) 48 (rise_filter _ _ _) (nextN_in hn) (fun lo' hl => by
      have : (59 : UInt8).toNat = 59 := rfl
      omega)]
  have hs : stop s p = p + (markN mk).length + 1 + (nextN ed n).length := by
    rw [← many_stop, hm, ha]
  have h4 : tl s (stop s p) = 59 :: r := by
    have := tl_add h3
    rw [List.length_map] at this
    rw [hs, ← ha]; exact this
  exact ⟨ha, hm, hs, isAt_tlK h2, isAt_tlK h4, tl_add (a := [59]) h4, h', h3⟩

end Go.Proofs.Ytcfbfdjmcabnkaa

namespace Go.Proofs.Ytcfbfdjmcabnkaa
open Fw
set_option linter.unusedVariables false

theorem rowT_len (mk ed : Nat → Bool) (n : Nat) : 0 < (rowT mk ed n).length := by simp [rowT]; omega

/-- where the rows begin -/
def RowsAt (s : ByteArray) (mk ed : Nat → Nat → Bool) (n : Nat) (l : List Nat) (m i : Nat) : Prop :=
  l.length = m ∧ ∀ k, k < m → ∃ p r, l[k]? = some p ∧ tl s p = rowT (mk (i + k)) (ed (i + k)) n ++ r

theorem run_rows {s : ByteArray} {mk ed : Nat → Nat → Bool} {n : Nat} (hn : n ≤ 6) : ∀ (m fuel p i : Nat), 0 < m → m ≤ fuel → tl s p = rowsT mk ed n m i → ∃ l, run s fuel p = (true, s.size, l) ∧ RowsAt s mk ed n l m i := by
  intro m
  induction m with
  | zero => intro fuel p i h; omega
  | succ m ih =>
    intro fuel p i _ hf h
    obtain ⟨fuel, rfl⟩ : ∃ k, fuel = k + 1 := ⟨fuel - 1, by omega⟩
    obtain ⟨ha, hm, hs, h1, h2, h3, _, _⟩ := row_read hn h
    have hlt := isAt_lt h2
    rw [run, if_pos h1, if_pos h2]
    by_cases h0 : m = 0
    · subst h0
      have he : stop s p + 1 = s.size := by
        have := congrArg List.length h3
        rw [tl_length] at this
        simp [rowsT] at this
        omega
      rw [if_pos he]
      refine ⟨[p], rfl, rfl, fun k hk => ?_⟩
      obtain rfl : k = 0 := by omega
      exact ⟨p, _, rfl, h⟩
    · have hne : ¬ stop s p + 1 = s.size := by
        intro he
        have := congrArg List.length h3
        rw [tl_length, he] at this
        obtain ⟨q, rfl⟩ : ∃ q, m = q + 1 := ⟨m - 1, by omega⟩
        have hl := rowT_len (mk (i + 1)) (ed (i + 1)) n
        simp [rowsT] at this
        omega
      rw [if_neg hne]
      obtain ⟨l, hl, hL, hR⟩ := ih fuel (stop s p + 1) (i + 1) (by omega) (by omega) h3
      rw [hl]
      refine ⟨p :: l, rfl, by simp [hL], fun k hk => ?_⟩
      cases k with
      | zero => exact ⟨p, _, rfl, h⟩
      | succ k =>
        obtain ⟨q, r, hq, hr⟩ := hR k (by omega)
        exact ⟨q, r, hq, by rw [hr, show i + 1 + k = i + (k + 1) from by omega]⟩

theorem byteAt_tl {s : ByteArray} {q t : Nat} {xs r : List UInt8} (h : tl s q = xs ++ r) (ht : t < xs.length) : byteAt s (q + t) = xs[t].toNat := by
  have hl : (tl s q).length = s.size - q := tl_length s q
  have hlt : q + t < s.size := by
    rw [h, List.length_append] at hl
    omega
  rw [byteAt_lt hlt]
  have e : (s.data.toList.drop q)[t]? = some xs[t] := by
    have : s.data.toList.drop q = xs ++ r := h
    rw [this, List.getElem?_append_left ht, List.getElem?_eq_getElem ht]
  rw [List.getElem?_drop] at e
  have e2 : s.data.toList[q + t]? = some s[q + t] := by
    rw [List.getElem?_eq_getElem (by simpa using hlt)]
    rfl
  rw [e2] at e
  injection e with e
  rw [e]

theorem mem_nextN {ed : Nat → Bool} {n j : Nat} : (48 + j) ∈ nextN ed n ↔ j < n ∧ ed j = true := by
  simp only [nextN, List.mem_map, List.mem_filter, List.mem_range]
  constructor
  · rintro ⟨k, h, e⟩
    obtain rfl : k = j := by omega
    exact h
  · intro h; exact ⟨j, h, rfl⟩
theorem mem_markN {mk : Nat → Bool} {c : Nat} : c ∈ markN mk ↔ ∃ k, k < 3 ∧ mk k = true ∧ c = 112 + k := by
  simp only [markN, List.mem_map, List.mem_filter, List.mem_range]
  constructor
  · rintro ⟨k, ⟨h1, h2⟩, e⟩; exact ⟨k, h1, h2, e.symm⟩
  · rintro ⟨k, h1, h2, e⟩; exact ⟨k, ⟨h1, h2⟩, e.symm⟩

theorem any_next {s : ByteArray} {q n j : Nat} {ed : Nat → Bool} {r : List UInt8} (hn : n ≤ 6) (h : tl s q = (nextN ed n).map b8 ++ r) : ((List.range (nextN ed n).length).any fun k => byteAt s (q + k) == j + 48) = (decide (j < n) && ed j) := by
  rw [Bool.eq_iff_iff, List.any_eq_true, Bool.and_eq_true, decide_eq_true_eq, ← mem_nextN]
  have hb : ∀ k (hk : k < (nextN ed n).length), byteAt s (q + k) = (nextN ed n)[k] := fun k hk => by
    rw [byteAt_tl h (by simpa using hk), List.getElem_map, b8_nat]
    have := nextN_in hn _ (List.getElem_mem hk)
    omega
  constructor
  · rintro ⟨k, hk, he⟩
    rw [List.mem_range] at hk
    rw [beq_iff_eq, hb k hk] at he
    rw [show 48 + j = (nextN ed n)[k] from by omega]
    exact List.getElem_mem hk
  · intro hm
    obtain ⟨k, hk, he⟩ := List.getElem_of_mem hm
    exact ⟨k, by rw [List.mem_range]; exact hk, by rw [beq_iff_eq, hb k hk, he]; omega⟩

theorem ext_list {s : ByteArray} {p : Nat} {xs r : List UInt8} (h : tl s p = xs ++ r) : (s.extract p (p + xs.length)).data.toList = xs := by
  rw [ByteArray.data_extract, Array.toList_extract, List.extract_eq_take_drop, show p + xs.length - p = xs.length from by omega]
  have : s.data.toList.drop p = xs ++ r := h
  rw [this, List.take_left]

/-- THE TEXT OF A PLAN IS READ AS THE PLAN -/
theorem plan_read {s : ByteArray} {mk ed : Nat → Nat → Bool} {n : Nat} (h0 : 0 < n) (hn : n ≤ 6) (h : s.data.toList = rowsT mk ed n n 0) :
    (run s 6 0).1 = true ∧ (gphOf s).n = n ∧ (∀ i j, i < n → (gphOf s).e i j = (decide (j < n) && ed i j)) ∧ (∀ i c, i < n → ((gphOf s).m i c = true ↔ ∃ k, k < 3 ∧ mk i k = true ∧ c = 112 + k)) := by
  obtain ⟨l, hr, hL, hR⟩ := run_rows (s := s) hn n 6 0 0 h0 hn (by rw [← h]; simp [tl])
  have hl : (run s 6 0).2.2 = l := by rw [hr]
  refine ⟨by rw [hr], ?_, fun i j hi => ?_, fun i c hi => ?_⟩
  · show (run s 6 0).2.2.length = n
    rw [hl, hL]
  · show mat s (run s 6 0).2.2 i j = _
    obtain ⟨p, r, hp, ht⟩ := hR i hi
    rw [Nat.zero_add] at ht
    obtain ⟨ha, hm, hs, h1, h2, h3, h4, h5⟩ := row_read hn ht
    rw [hl, mat_some hp, hm]
    exact any_next hn h5
  · show ((mrk s (run s 6 0).2.2 i).data.toList.any fun d => d.toNat == c) = true ↔ _
    obtain ⟨p, r, hp, ht⟩ := hR i hi
    rw [Nat.zero_add] at ht
    obtain ⟨ha, hm, hs, h1, h2, h3, h4, h5⟩ := row_read hn ht
    have hx := ext_list h4
    rw [List.length_map] at hx
    rw [hl, mrk_some hp, ha, hx, ← mem_markN, List.any_eq_true]
    constructor
    · rintro ⟨d, hd, he⟩
      rw [List.mem_map] at hd
      obtain ⟨x, hx1, rfl⟩ := hd
      have := markN_in x hx1
      rw [beq_iff_eq, b8_nat (by omega)] at he
      rw [← he]; exact hx1
    · intro hc
      have := markN_in c hc
      exact ⟨b8 c, List.mem_map.2 ⟨c, hc, rfl⟩, by rw [beq_iff_eq, b8_nat (by omega)]⟩

end Go.Proofs.Ytcfbfdjmcabnkaa

namespace Go.Proofs.Ytcfbfdjmcabnkaa
open Fw
open Go.Deep (BT)
set_option linter.unusedVariables false

theorem firstBad_of {s : ByteArray} {n : Nat} : ∀ (l : List Nat) (i : Nat), (∀ p ∈ l, astB s n p = false) → firstBad s n i l = none := by
  intro l
  induction l with
  | nil => intro i _; rfl
  | cons q r ih =>
    intro i h
    rw [firstBad, if_neg (by rw [h q (by simp)]; simp)]
    exact ih _ fun p hp => h p (by simp [hp])

theorem plan_chk {s : ByteArray} {mk ed : Nat → Nat → Bool} {n : Nat} (h0 : 0 < n) (hn : n ≤ 6) (h : s.data.toList = rowsT mk ed n n 0) : chk s = (0, 0) := by
  obtain ⟨l, hr, hL, hR⟩ := run_rows (s := s) hn n 6 0 0 h0 hn (by rw [← h]; simp [tl])
  refine chk_good (by rw [hr]) ?_
  rw [hr]
  show firstBad s l.length 0 l = none
  refine firstBad_of _ _ fun p hp => ?_
  obtain ⟨k, hk, he⟩ := List.getElem_of_mem hp
  obtain ⟨p', r, hp', ht⟩ := hR k (by omega)
  rw [List.getElem?_eq_getElem hk, he] at hp'
  injection hp' with hp'
  subst hp'
  obtain ⟨ha, hm, hs, h1, h2, h3, h4, h5⟩ := row_read hn ht
  refine astB_no fun t ht hx => ?_
  rw [hm] at ht
  rw [byteAt_tl h5 (by simpa using ht), List.getElem_map, hL] at hx
  have hin := List.getElem_mem ht
  have hr2 := nextN_in hn _ hin
  rw [b8_nat (by omega)] at hx
  simp only [nextN, List.mem_map, List.mem_filter, List.mem_range] at hin
  obtain ⟨j, ⟨hj, _⟩, hje⟩ := hin
  simp only [nextN] at hx
  omega

theorem rows_len (mk ed : Nat → Nat → Bool) (n : Nat) : ∀ m i, (rowsT mk ed n m i).length ≤ m * (n + 5) := by
  intro m
  induction m with
  | zero => intro i; simp [rowsT]
  | succ m ih =>
    intro i
    have h1 : ((List.range 3).filter (mk i)).length ≤ 3 := by
      have := List.length_filter_le (mk i) (List.range 3)
      rw [List.length_range] at this
      exact this
    have h2 : ((List.range n).filter (ed i)).length ≤ n := by
      have := List.length_filter_le (ed i) (List.range n)
      rw [List.length_range] at this
      exact this
    have := ih (i + 1)
    rw [rowsT, List.length_append, rowT, Nat.succ_mul]
    simp only [List.length_append, List.length_cons, List.length_map, List.length_nil, markN, nextN]
    omega

theorem plan_size {s : ByteArray} {mk ed : Nat → Nat → Bool} {n : Nat} (hn : n ≤ 6) (h : s.data.toList = rowsT mk ed n n 0) : s.size ≤ 66 := by
  have h1 := rows_len mk ed n n 0
  rw [← h] at h1
  have h2 : n * (n + 5) ≤ 66 := by
    have : n * (n + 5) ≤ 6 * 11 := Nat.mul_le_mul hn (by omega)
    omega
  have : s.size = s.data.toList.length := by
    show s.data.size = _
    rw [Array.length_toList]
  omega

/-- a formula's text: what Form says of it, and its tree -/
theorem frm_txt {s : ByteArray} {t : Fm} (g : good t) (h : s.data.toList = txt t) : frm s = (if 3 < nst t then (6, 0) else (0, 0)) ∧ treeOf s = t := by
  have hz : s.size = (txt t).length := size_of h
  have hp : pt (s.size + 1) (tl s 0) = (true, [], t) := by
    rw [tl0, h]
    have := pt_txt t g (s.size + 1) [] (by omega)
    rw [List.append_nil] at this
    exact this
  constructor
  · unfold frm
    rw [hp]
    simp
  · unfold treeOf
    rw [hp]

/-- what Solve tells, of a text that it takes -/
theorem sol_of {g f s : ByteArray} {t : Fm} (hg : g.size ≤ 210) (hc : (chk g).1 = 0) (hf : fairOk f = true) (gd : good t) (h : s.data.toList = txt t) (hs : s.size ≤ 30) (hn : nst t ≤ 3) :
    sol g f s = (bs (bitsU (holdsB (gphOf g) (fsOf f) t) (gphOf g).n), 0) := by
  obtain ⟨h1, h2⟩ := frm_txt gd h
  have hz : flt g f s = 0 := by
    unfold flt
    rw [if_neg (by omega), if_neg (by omega), if_neg (by rw [hf]; simp), h1, if_neg (by omega)]
  rw [sol, if_pos hz, h2]

theorem bits_congr {p q : Nat → Bool} {n : Nat} (h : ∀ j, j < n → p j = q j) : bitsU p n = bitsU q n := by
  unfold bitsU
  refine List.map_congr_left fun j hj => ?_
  rw [h j (List.mem_range.1 hj)]

/-- two formulas that mean the same are answered alike -/
theorem holdsB_same {G : Gph} {fs : List Nat} (ok : G.ok) {t u : Fm} (gt : good t) (gu : good u) (h : ∀ i, i < G.n → (sat G fs t i ↔ sat G fs u i)) : ∀ i, i < G.n → holdsB G fs t i = holdsB G fs u i := by
  intro i hi
  rw [Bool.eq_iff_iff, holdsB_iff ok t gt i hi, holdsB_iff ok u gu i hi]
  exact h i hi

end Go.Proofs.Ytcfbfdjmcabnkaa

