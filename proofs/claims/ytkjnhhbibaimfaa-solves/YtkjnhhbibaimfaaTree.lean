/- THE PLAIN MATHEMATICS OF FORMULAS: trees, their texts, reading, the stack of what must still come. Nothing of the dump. -/
import Derived.Deep.Trees
import Derived.Test.YtkjnhhbibaimfaaMath
namespace Go.Proofs.Ytkjnhhbibaimfaa.Fw
open Go.Deep (BT)
set_option linter.unusedVariables false

/-- a formula: b: its sign; o: E or A ahead of it, or 0 -/
abbrev Fm := BT Unit

def isLet (c : Nat) : Bool := decide (97 ≤ c ∧ c ≤ 122)
def isAtom (c : Nat) : Bool := decide (c = 84 ∨ (97 ≤ c ∧ c ≤ 122))

def one (sg wy : Nat) (x : Bool × List UInt8 × Fm) : Bool × List UInt8 × Fm :=
  if x.1 = true then (true, x.2.1, .node sg wy () x.2.2 .nil) else (false, x.2.1, .nil)

/-- the sign between two parts, the second part, the bracket -/
def mid (f : List UInt8 → Bool × List UInt8 × Fm) (wy a b z : Nat) (t : Fm) : List UInt8 → Bool × List UInt8 × Fm
  | [] => (false, [], .nil)
  | d :: r =>
    if d.toNat = a ∨ d.toNat = b then
      if (f r).1 = true then
        match (f r).2.1 with
        | [] => (false, [], .nil)
        | e :: q => if e.toNat = z then (true, q, .node d.toNat wy () t (f r).2.2) else (false, e :: q, .nil)
      else (false, (f r).2.1, .nil)
    else (false, d :: r, .nil)

def two (f : List UInt8 → Bool × List UInt8 × Fm) (wy a b z : Nat) (l : List UInt8) : Bool × List UInt8 × Fm :=
  if (f l).1 = true then mid f wy a b z (f l).2.2 (f l).2.1 else (false, (f l).2.1, .nil)

def ways (f : List UInt8 → Bool × List UInt8 × Fm) (wy : Nat) : List UInt8 → Bool × List UInt8 × Fm
  | [] => (false, [], .nil)
  | d :: r => if d.toNat = 88 then one 88 wy (f r) else if d.toNat = 91 then two f wy 85 82 93 r else (false, d :: r, .nil)

/-- reading a formula: whether there is one; what is left behind it, or from the fault on; the formula -/
def pt : Nat → List UInt8 → Bool × List UInt8 × Fm
  | 0, l => (false, l, .nil)
  | _ + 1, [] => (false, [], .nil)
  | n + 1, c :: r =>
    if isAtom c.toNat = true then (true, r, .node c.toNat 0 () .nil .nil)
    else if c.toNat = 33 then one 33 0 (pt n r)
    else if c.toNat = 40 then two (pt n) 0 38 43 41 r
    else if c.toNat = 69 ∨ c.toNat = 65 then ways (pt n) c.toNat r
    else (false, c :: r, .nil)

def b8 (n : Nat) : UInt8 := UInt8.ofNat n

/-- its text -/
def txt : Fm → List UInt8
  | .nil => []
  | .node sg wy _ l r =>
    if sg = 33 then 33 :: txt l
    else if sg = 38 ∨ sg = 43 then 40 :: (txt l ++ b8 sg :: (txt r ++ [41]))
    else if sg = 88 then b8 wy :: 88 :: txt l
    else if sg = 85 ∨ sg = 82 then b8 wy :: 91 :: (txt l ++ b8 sg :: (txt r ++ [93]))
    else [b8 sg]

/-- is it a formula? -/
def good : Fm → Prop
  | .nil => False
  | .node sg wy _ l r =>
    if sg = 33 then wy = 0 ∧ good l ∧ r = .nil
    else if sg = 38 ∨ sg = 43 then wy = 0 ∧ good l ∧ good r
    else if sg = 88 then (wy = 69 ∨ wy = 65) ∧ good l ∧ r = .nil
    else if sg = 85 ∨ sg = 82 then (wy = 69 ∨ wy = 65) ∧ good l ∧ good r
    else isAtom sg = true ∧ wy = 0 ∧ l = .nil ∧ r = .nil

def nst : Fm → Nat
  | .nil => 0
  | .node _ wy _ l r => (if wy = 0 then 0 else 1) + max (nst l) (nst r)

theorem b8_toNat {c : UInt8} : b8 c.toNat = c := by
  simp [b8]

theorem lit_toNat {c : UInt8} {n : Nat} (h : c.toNat = n) : c = b8 n := by
  rw [← h, b8_toNat]

/-- the five shapes of a formula -/
theorem good_cases {t : Fm} (h : good t) :
    (∃ c, t = .node c 0 () .nil .nil ∧ isAtom c = true ∧ txt t = [b8 c]) ∨
    (∃ l, t = .node 33 0 () l .nil ∧ good l ∧ txt t = 33 :: txt l) ∨
    (∃ sg l r, t = .node sg 0 () l r ∧ (sg = 38 ∨ sg = 43) ∧ good l ∧ good r ∧ txt t = 40 :: (txt l ++ b8 sg :: (txt r ++ [41]))) ∨
    (∃ wy l, t = .node 88 wy () l .nil ∧ (wy = 69 ∨ wy = 65) ∧ good l ∧ txt t = b8 wy :: 88 :: txt l) ∨
    (∃ sg wy l r, t = .node sg wy () l r ∧ (sg = 85 ∨ sg = 82) ∧ (wy = 69 ∨ wy = 65) ∧ good l ∧ good r ∧ txt t = b8 wy :: 91 :: (txt l ++ b8 sg :: (txt r ++ [93]))) := by
  cases t with
  | nil => exact absurd h (by simp [good])
  | node sg wy u l r =>
    cases u
    unfold good at h
    split at h
    · rename_i e
      subst e
      obtain ⟨rfl, h2, rfl⟩ := h
      exact .inr (.inl ⟨l, rfl, h2, by simp [txt]⟩)
    · rename_i n1
      split at h
      · rename_i e
        obtain ⟨rfl, h2, h3⟩ := h
        refine .inr (.inr (.inl ⟨sg, l, r, rfl, e, h2, h3, ?_⟩))
        rw [txt, if_neg n1, if_pos e]
      · rename_i n2
        split at h
        · rename_i e
          subst e
          obtain ⟨h1, h2, rfl⟩ := h
          exact .inr (.inr (.inr (.inl ⟨wy, l, rfl, h1, h2, by simp [txt]⟩)))
        · rename_i n3
          split at h
          · rename_i e
            obtain ⟨h1, h2, h3⟩ := h
            refine .inr (.inr (.inr (.inr ⟨sg, wy, l, r, rfl, e, h1, h2, h3, ?_⟩)))
            rw [txt, if_neg n1, if_neg n2, if_neg n3, if_pos e]
          · rename_i n4
            obtain ⟨h1, rfl, rfl, rfl⟩ := h
            refine .inl ⟨sg, rfl, h1, ?_⟩
            rw [txt, if_neg n1, if_neg n2, if_neg n3, if_neg n4]

theorem good_one {sg wy : Nat} {l : Fm} (h : (sg = 33 ∧ wy = 0) ∨ (sg = 88 ∧ (wy = 69 ∨ wy = 65))) (hl : good l) : good (.node sg wy () l .nil) := by
  rcases h with ⟨rfl, rfl⟩ | ⟨rfl, h⟩
  · simp [good, hl]
  · simp [good, hl, h]

theorem good_two {sg wy : Nat} {l r : Fm} (h : ((sg = 38 ∨ sg = 43) ∧ wy = 0) ∨ ((sg = 85 ∨ sg = 82) ∧ (wy = 69 ∨ wy = 65))) (hl : good l) (hr : good r) : good (.node sg wy () l r) := by
  rcases h with ⟨rfl | rfl, rfl⟩ | ⟨rfl | rfl, h⟩ <;> simp [good, *]

theorem good_atom {c : Nat} (h : isAtom c = true) : good (.node c 0 () .nil .nil) := by
  have h' := h
  simp only [isAtom, decide_eq_true_eq] at h'
  rw [good, if_neg (by omega), if_neg (by omega), if_neg (by omega), if_neg (by omega)]
  exact ⟨h, rfl, rfl, rfl⟩

theorem txt_one33 (l : Fm) (wy : Nat) : txt (.node 33 wy () l .nil) = 33 :: txt l := by simp [txt]
theorem txt_one88 (l : Fm) (wy : Nat) : txt (.node 88 wy () l .nil) = b8 wy :: 88 :: txt l := by simp [txt]
theorem txt_bin {sg : Nat} (h : sg = 38 ∨ sg = 43) (wy : Nat) (l r : Fm) : txt (.node sg wy () l r) = 40 :: (txt l ++ b8 sg :: (txt r ++ [41])) := by
  rw [txt, if_neg (by omega), if_pos h]
theorem txt_way {sg : Nat} (h : sg = 85 ∨ sg = 82) (wy : Nat) (l r : Fm) : txt (.node sg wy () l r) = b8 wy :: 91 :: (txt l ++ b8 sg :: (txt r ++ [93])) := by
  rw [txt, if_neg (by omega), if_neg (by omega), if_neg (by omega), if_pos h]
theorem txt_atom {c : Nat} (h : isAtom c = true) : txt (.node c 0 () .nil .nil) = [b8 c] := by
  simp only [isAtom, decide_eq_true_eq] at h
  rw [txt, if_neg (by omega), if_neg (by omega), if_neg (by omega), if_neg (by omega)]

/-- what reading with f finds: texts of formulas -/
def Sound (f : List UInt8 → Bool × List UInt8 × Fm) : Prop := ∀ l, (f l).1 = true → l = txt (f l).2.2 ++ (f l).2.1 ∧ good (f l).2.2

theorem mid_sound {f : List UInt8 → Bool × List UInt8 × Fm} (hf : Sound f) {wy a b z : Nat} {t : Fm} {l : List UInt8} (h : (mid f wy a b z t l).1 = true) :
    ∃ d r q, l = d :: r ∧ (d.toNat = a ∨ d.toNat = b) ∧ (f r).1 = true ∧ (f r).2.1 = b8 z :: q ∧ mid f wy a b z t l = (true, q, .node d.toNat wy () t (f r).2.2) := by
  cases l with
  | nil => simp [mid] at h
  | cons d r =>
    dsimp only [mid] at h ⊢
    split at h
    · rename_i hd
      split at h
      · rename_i hr
        split at h
        · simp at h
        · rename_i e q heq
          split at h
          · rename_i he
            refine ⟨d, r, q, rfl, hd, hr, by rw [heq, lit_toNat he], ?_⟩
            rw [if_pos hd, if_pos hr, if_pos he]
          · simp at h
      · simp at h
    · simp at h

theorem two_sound {f : List UInt8 → Bool × List UInt8 × Fm} (hf : Sound f) {wy a b z : Nat} {l : List UInt8} (h : (two f wy a b z l).1 = true) :
    ∃ d r q, (f l).1 = true ∧ (f l).2.1 = d :: r ∧ (d.toNat = a ∨ d.toNat = b) ∧ (f r).1 = true ∧ (f r).2.1 = b8 z :: q ∧ two f wy a b z l = (true, q, .node d.toNat wy () (f l).2.2 (f r).2.2) ∧
      l = txt (f l).2.2 ++ d :: (txt (f r).2.2 ++ b8 z :: q) ∧ good (f l).2.2 ∧ good (f r).2.2 := by
  unfold two at h ⊢
  split at h
  · rename_i hl
    obtain ⟨d, r, q, h1, h2, h3, h4, h5⟩ := mid_sound hf h
    refine ⟨d, r, q, hl, h1, h2, h3, h4, by rw [if_pos hl, h5], ?_, (hf l hl).2, (hf r h3).2⟩
    have e1 := (hf l hl).1
    have e2 := (hf r h3).1
    rw [h1] at e1
    rw [h4] at e2
    rw [← e2]
    exact e1
  · simp at h

theorem pt_sound : ∀ n, Sound (pt n) := by
  intro n
  induction n with
  | zero => intro l h; simp [pt] at h
  | succ n ih =>
    intro l h
    cases l with
    | nil => simp [pt] at h
    | cons c r =>
      unfold pt at h ⊢
      split at h
      · rename_i h1
        rw [if_pos h1]
        refine ⟨?_, good_atom h1⟩
        rw [txt_atom h1, b8_toNat]
        rfl
      · rename_i n1
        rw [if_neg n1]
        split at h
        · rename_i h2
          rw [if_pos h2]
          unfold one at h ⊢
          split at h
          · rename_i hr
            rw [if_pos hr]
            obtain ⟨e1, e2⟩ := ih r hr
            refine ⟨?_, good_one (.inl ⟨rfl, rfl⟩) e2⟩
            show c :: r = txt (.node 33 0 () (pt n r).2.2 .nil) ++ (pt n r).2.1
            rw [txt_one33, lit_toNat h2, List.cons_append, ← e1]
            rfl
          · simp at h
        · rename_i n2
          rw [if_neg n2]
          split at h
          · rename_i h3
            rw [if_pos h3]
            obtain ⟨d, r2, q, _, _, hd, _, _, hx, hl, g1, g2⟩ := two_sound ih h
            rw [hx]
            have hs : d.toNat = 38 ∨ d.toNat = 43 := hd
            refine ⟨?_, good_two (.inl ⟨hs, rfl⟩) g1 g2⟩
            show c :: r = txt (.node d.toNat 0 () (pt n r).2.2 (pt n r2).2.2) ++ q
            rw [txt_bin hs, lit_toNat h3, b8_toNat]
            simp only [List.cons_append, List.append_assoc, List.nil_append]
            rw [show ((41 : UInt8) :: q) = b8 41 :: q from rfl, ← hl]
            rfl
          · rename_i n3
            rw [if_neg n3]
            split at h
            · rename_i h4
              rw [if_pos h4]
              cases r with
              | nil => simp [ways] at h
              | cons d r =>
                dsimp only [ways] at h ⊢
                split at h
                · rename_i h5
                  rw [if_pos h5]
                  unfold one at h ⊢
                  split at h
                  · rename_i hr
                    rw [if_pos hr]
                    obtain ⟨e1, e2⟩ := ih r hr
                    refine ⟨?_, good_one (.inr ⟨rfl, h4⟩) e2⟩
                    show c :: d :: r = txt (.node 88 c.toNat () (pt n r).2.2 .nil) ++ (pt n r).2.1
                    rw [txt_one88, lit_toNat h5, b8_toNat, List.cons_append, List.cons_append, ← e1]
                    rfl
                  · simp at h
                · rename_i n5
                  rw [if_neg n5]
                  split at h
                  · rename_i h6
                    rw [if_pos h6]
                    obtain ⟨e, r2, q, _, _, hd, _, _, hx, hl, g1, g2⟩ := two_sound ih h
                    rw [hx]
                    have hs : e.toNat = 85 ∨ e.toNat = 82 := hd
                    refine ⟨?_, good_two (.inr ⟨hs, h4⟩) g1 g2⟩
                    show c :: d :: r = txt (.node e.toNat c.toNat () (pt n r).2.2 (pt n r2).2.2) ++ q
                    rw [txt_way hs, lit_toNat h6, b8_toNat, b8_toNat]
                    simp only [List.cons_append, List.append_assoc, List.nil_append]
                    rw [show ((93 : UInt8) :: q) = b8 93 :: q from rfl, ← hl]
                    rfl
                  · simp at h
            · simp at h

/-- the stack (its last entry first) behind a byte that stands where its last entry must come -/
def fol (top : Nat) (st : List Nat) (c : Nat) : Option (List Nat) :=
  if top = 102 then
    if isAtom c = true then some st
    else if c = 33 then some (102 :: st)
    else if c = 40 then some (102 :: 111 :: 102 :: 41 :: st)
    else if c = 69 ∨ c = 65 then some (119 :: st)
    else none
  else if top = 111 then (if c = 38 ∨ c = 43 then some st else none)
  else if top = 117 then (if c = 85 ∨ c = 82 then some st else none)
  else if top = 119 then (if c = 91 then some (102 :: 117 :: 102 :: 93 :: st) else if c = 88 then some (102 :: st) else none)
  else (if c = top then some st else none)

/-- as far as a text goes with a stack: the stack then, and what is left -/
def auto : List Nat → List UInt8 → List Nat × List UInt8
  | st, [] => (st, [])
  | [], c :: r => ([], c :: r)
  | top :: st, c :: r =>
    match fol top st c.toNat with
    | none => (top :: st, c :: r)
    | some st' => auto st' r

theorem auto_nil (l : List UInt8) : auto [] l = ([], l) := by
  cases l <;> rfl

theorem auto_yes {top : Nat} {st st' : List Nat} {c : UInt8} {r : List UInt8} (h : fol top st c.toNat = some st') : auto (top :: st) (c :: r) = auto st' r := by
  rw [auto, h]
theorem auto_no {top : Nat} {st : List Nat} {c : UInt8} {r : List UInt8} (h : fol top st c.toNat = none) : auto (top :: st) (c :: r) = (top :: st, c :: r) := by
  rw [auto, h]
theorem auto_end (st : List Nat) : auto st [] = (st, []) := by
  cases st <;> rfl

theorem fol_atom {c : Nat} (st : List Nat) (h : isAtom c = true) : fol 102 st c = some st := by simp [fol, h]
theorem fol_not (st : List Nat) : fol 102 st 33 = some (102 :: st) := by simp [fol, isAtom]
theorem fol_open (st : List Nat) : fol 102 st 40 = some (102 :: 111 :: 102 :: 41 :: st) := by simp [fol, isAtom]
theorem fol_way {c : Nat} (st : List Nat) (h : c = 69 ∨ c = 65) : fol 102 st c = some (119 :: st) := by
  rcases h with rfl | rfl <;> simp [fol, isAtom]
theorem fol_bin {c : Nat} (st : List Nat) (h : c = 38 ∨ c = 43) : fol 111 st c = some st := by simp [fol, h]
theorem fol_ur {c : Nat} (st : List Nat) (h : c = 85 ∨ c = 82) : fol 117 st c = some st := by simp [fol, h]
theorem fol_x (st : List Nat) : fol 119 st 88 = some (102 :: st) := by simp [fol]
theorem fol_br (st : List Nat) : fol 119 st 91 = some (102 :: 117 :: 102 :: 93 :: st) := by simp [fol]
theorem fol_41 (st : List Nat) : fol 41 st 41 = some st := by simp [fol]
theorem fol_93 (st : List Nat) : fol 93 st 93 = some st := by simp [fol]

theorem isAtom_lt {c : Nat} (h : isAtom c = true) : c < 256 := by
  simp only [isAtom, decide_eq_true_eq] at h
  omega

theorem b8_nat {n : Nat} (h : n < 256) : (b8 n).toNat = n := by
  simp [b8]
  omega

/-- a formula's text is gone through -/
theorem auto_txt : ∀ (t : Fm), good t → ∀ (st : List Nat) (r : List UInt8), auto (102 :: st) (txt t ++ r) = auto st r := by
  intro t
  induction t with
  | nil => intro h; exact absurd h (by simp [good])
  | node sg wy u l r ihl ihr =>
    intro h st q
    rcases good_cases h with ⟨c, e, hc, ht⟩ | ⟨x, e, hx, ht⟩ | ⟨s, x, y, e, hs, hx, hy, ht⟩ | ⟨v, x, e, hv, hx, ht⟩ | ⟨s, v, x, y, e, hs, hv, hx, hy, ht⟩
    · rw [ht]
      exact auto_yes (by rw [b8_nat (isAtom_lt hc)]; exact fol_atom st hc)
    · rw [ht]
      injection e with _ _ _ e1 _
      subst e1
      rw [List.cons_append, auto_yes (fol_not st)]
      exact ihl hx st q
    · rw [ht]
      injection e with _ _ _ e1 e2
      subst e1 e2
      rw [List.cons_append, auto_yes (fol_open st), List.append_assoc, ihl hx, List.cons_append, auto_yes (by rw [b8_nat (by omega)]; exact fol_bin _ hs), List.append_assoc, ihr hy]
      exact auto_yes (fol_41 st)
    · rw [ht]
      injection e with _ _ _ e1 _
      subst e1
      rw [List.cons_append, auto_yes (by rw [b8_nat (by omega)]; exact fol_way _ hv), List.cons_append, auto_yes (fol_x st)]
      exact ihl hx st q
    · rw [ht]
      injection e with _ _ _ e1 e2
      subst e1 e2
      rw [List.cons_append, auto_yes (by rw [b8_nat (by omega)]; exact fol_way _ hv), List.cons_append, auto_yes (fol_br st), List.append_assoc, ihl hx, List.cons_append, auto_yes (by rw [b8_nat (by omega)]; exact fol_ur _ hs), List.append_assoc, ihr hy]
      exact auto_yes (fol_93 st)

/-- where reading with f fails, the stack's way ends there too -/
def Fails (f : List UInt8 → Bool × List UInt8 × Fm) (m : Nat) : Prop := ∀ l st, l.length < m → (f l).1 = false → ∃ st', st' ≠ [] ∧ auto (102 :: st) l = (st', (f l).2.1)

theorem fol_none102 {c : Nat} (st : List Nat) (h1 : ¬ isAtom c = true) (h2 : ¬ c = 33) (h3 : ¬ c = 40) (h4 : ¬ (c = 69 ∨ c = 65)) : fol 102 st c = none := by
  rw [fol, if_pos rfl, if_neg h1, if_neg h2, if_neg h3, if_neg h4]

theorem rest_le {f : List UInt8 → Bool × List UInt8 × Fm} (hs : Sound f) {l : List UInt8} (h : (f l).1 = true) : (f l).2.1.length < l.length := by
  have e := (hs l h).1
  have hg := (hs l h).2
  have hp : 0 < (txt (f l).2.2).length := by
    rcases good_cases hg with ⟨c, _, _, ht⟩ | ⟨x, _, _, ht⟩ | ⟨s, x, y, _, _, _, _, ht⟩ | ⟨v, x, _, _, _, ht⟩ | ⟨s, v, x, y, _, _, _, _, _, ht⟩ <;> rw [ht] <;> simp
  have e2 := congrArg List.length e
  rw [List.length_append] at e2
  omega

theorem two_fails {f : List UInt8 → Bool × List UInt8 × Fm} {m : Nat} (hs : Sound f) (hf : Fails f m) {wy a b z o : Nat} {st : List Nat} {l : List UInt8} (hl : l.length < m)
    (ho : ∀ st c, fol o st c = if c = a ∨ c = b then some st else none) (hz : ∀ st c, fol z st c = if c = z then some st else none)
    (h : (two f wy a b z l).1 = false) : ∃ st', st' ≠ [] ∧ auto (102 :: o :: 102 :: z :: st) l = (st', (two f wy a b z l).2.1) := by
  unfold two at h ⊢
  split at h
  · rename_i h1
    rw [if_pos h1]
    obtain ⟨e1, g1⟩ := hs l h1
    have hle := rest_le hs h1
    have ha : auto (102 :: o :: 102 :: z :: st) l = auto (o :: 102 :: z :: st) (f l).2.1 := by
      conv => lhs; rw [e1]
      exact auto_txt _ g1 _ _
    rw [ha]
    generalize hq : (f l).2.1 = q at h hle ⊢
    cases q with
    | nil => exact ⟨_, by simp, auto_end _⟩
    | cons d r =>
      dsimp only [mid] at h ⊢
      split at h
      · rename_i hd
        rw [if_pos hd, auto_yes (by rw [ho, if_pos hd])]
        have hr : r.length < m := by simp at hle; omega
        split at h
        · rename_i h2
          rw [if_pos h2]
          obtain ⟨e2, g2⟩ := hs r h2
          have hb : auto (102 :: z :: st) r = auto (z :: st) (f r).2.1 := by
            conv => lhs; rw [e2]
            exact auto_txt _ g2 _ _
          rw [hb]
          generalize (f r).2.1 = q at h ⊢
          cases q with
          | nil => exact ⟨_, by simp, auto_end _⟩
          | cons e q =>
            dsimp only at h ⊢
            split at h
            · simp at h
            · rename_i he
              rw [if_neg he]
              exact ⟨_, by simp, auto_no (by rw [hz, if_neg he])⟩
        · rename_i h2
          rw [if_neg h2]
          exact hf r _ hr (by simpa using h2)
      · rename_i hd
        rw [if_neg hd]
        exact ⟨_, by simp, auto_no (by rw [ho, if_neg hd])⟩
  · rename_i h1
    rw [if_neg h1]
    exact hf l _ hl (by simpa using h1)

theorem fol_111 (st : List Nat) (c : Nat) : fol 111 st c = if c = 38 ∨ c = 43 then some st else none := by simp [fol]
theorem fol_117 (st : List Nat) (c : Nat) : fol 117 st c = if c = 85 ∨ c = 82 then some st else none := by simp [fol]
theorem fol_41' (st : List Nat) (c : Nat) : fol 41 st c = if c = 41 then some st else none := by simp [fol]
theorem fol_93' (st : List Nat) (c : Nat) : fol 93 st c = if c = 93 then some st else none := by simp [fol]

theorem one_fails {f : List UInt8 → Bool × List UInt8 × Fm} {m : Nat} (hf : Fails f m) {sg wy : Nat} {st : List Nat} {l : List UInt8} (hl : l.length < m)
    (h : (one sg wy (f l)).1 = false) : ∃ st', st' ≠ [] ∧ auto (102 :: st) l = (st', (one sg wy (f l)).2.1) := by
  unfold one at h ⊢
  split at h
  · simp at h
  · rename_i h1
    rw [if_neg h1]
    exact hf l _ hl (by simpa using h1)

theorem pt_fails : ∀ n, Fails (pt n) n := by
  intro n
  induction n with
  | zero => intro l st hl; omega
  | succ n ih =>
    intro l st hl h
    cases l with
    | nil => exact ⟨_, by simp, auto_end _⟩
    | cons c r =>
      have hr : r.length < n := by simp at hl; omega
      unfold pt at h ⊢
      split at h
      · simp at h
      · rename_i n1
        rw [if_neg n1]
        split at h
        · rename_i h2
          rw [if_pos h2, auto_yes (by rw [h2]; exact fol_not st)]
          exact one_fails ih hr h
        · rename_i n2
          rw [if_neg n2]
          split at h
          · rename_i h3
            rw [if_pos h3, auto_yes (by rw [h3]; exact fol_open st)]
            exact two_fails (pt_sound n) ih hr fol_111 fol_41' h
          · rename_i n3
            rw [if_neg n3]
            split at h
            · rename_i h4
              rw [if_pos h4, auto_yes (fol_way st h4)]
              cases r with
              | nil => exact ⟨_, by simp, auto_end _⟩
              | cons d r =>
                have hr2 : r.length < n := by simp at hr; omega
                dsimp only [ways] at h ⊢
                split at h
                · rename_i h5
                  rw [if_pos h5, auto_yes (by rw [h5]; exact fol_x st)]
                  exact one_fails ih hr2 h
                · rename_i n5
                  rw [if_neg n5]
                  split at h
                  · rename_i h6
                    rw [if_pos h6, auto_yes (by rw [h6]; exact fol_br st)]
                    exact two_fails (pt_sound n) ih hr2 fol_117 fol_93' h
                  · rename_i n6
                    rw [if_neg n6]
                    exact ⟨_, by simp, auto_no (by rw [fol]; simp [n5, n6])⟩
            · rename_i n4
              rw [if_neg n4]
              exact ⟨_, by simp, auto_no (fol_none102 st n1 n2 n3 n4)⟩

/-- THE TWO WAYS OF READING AGREE -/
theorem auto_pt (l : List UInt8) :
    ((pt (l.length + 1) l).1 = true ∧ auto [102] l = ([], (pt (l.length + 1) l).2.1)) ∨
    ((pt (l.length + 1) l).1 = false ∧ ∃ st, st ≠ [] ∧ auto [102] l = (st, (pt (l.length + 1) l).2.1)) := by
  cases h : (pt (l.length + 1) l).1 with
  | true =>
    left
    refine ⟨rfl, ?_⟩
    obtain ⟨e, g⟩ := pt_sound _ l h
    conv => lhs; rw [e]
    rw [auto_txt _ g, auto_nil]
  | false => exact .inr ⟨rfl, pt_fails _ l [] (by omega) h⟩

end Go.Proofs.Ytkjnhhbibaimfaa.Fw
