import Derived.Test.YtkjnhhbibaimfaaTree
import Derived.Test.YtkjnhhbibaimfaaWa
import Derived.Lib.Strings
namespace Go.Proofs.Ytkjnhhbibaimfaa
open Go.RowKit Fw
set_option linter.unusedVariables false

/-- a stack as a string: its last entry last -/
def sk (st : List Nat) : ByteArray := ⟨((st.map b8).reverse).toArray⟩

theorem sk_size (st : List Nat) : (sk st).size = st.length := by simp [sk, ByteArray.size]

theorem sk_top (top : Nat) (st : List Nat) (ht : top < 256) (h : st.length < (sk (top :: st)).size) : (sk (top :: st))[st.length].toNat = top := by
  have e : (sk (top :: st))[st.length] = b8 top := by
    show ((((top :: st).map b8).reverse).toArray)[st.length]'_ = b8 top
    simp
  rw [e, b8_nat ht]

theorem bytes_ext {a b : ByteArray} (h : a.data.toList = b.data.toList) : a = b := by
  cases a; cases b
  simp at h
  rw [ByteArray.mk.injEq, ← Array.toList_inj]
  exact congrArg Array.toList h

theorem sk_list (st : List Nat) : (sk st).data.toList = (st.map b8).reverse := by simp [sk]

theorem sk_rest (top : Nat) (st : List Nat) : (sk (top :: st)).extract 0 st.length = sk st := by
  apply bytes_ext
  rw [Lib.extract_data, sk_list, sk_list]
  simp

theorem sk_add (l st : List Nat) (x : ByteArray) (h : x.data.toList = (l.map b8).reverse) : sk st ++ x = sk (l ++ st) := by
  apply bytes_ext
  rw [ByteArray.data_append, Array.toList_append, h, sk_list, sk_list]
  simp

theorem sk_empty (st : List Nat) : (sk st).toList.isEmpty = st.isEmpty := by
  rw [ByteArray.toList_eq, sk_list]
  cases st <;> simp

def okTop (x : Nat) : Prop := x = 102 ∨ x = 111 ∨ x = 117 ∨ x = 119 ∨ x = 41 ∨ x = 93

theorem fol_119n {c : Nat} (st : List Nat) (h1 : ¬ c = 91) (h2 : ¬ c = 88) : fol 119 st c = none := by simp [fol, h1, h2]

def folRes (o : Option (List Nat)) (e : Ending) : Prop :=
  match o with
  | some st => e = .returned (.tuple #[.string (sk st), .bool true])
  | none => ∃ τ, e = .returned (.tuple #[.string τ, .bool false])

theorem folRes_some {o : Option (List Nat)} {st : List Nat} {e : Ending} (h : o = some st) (he : e = .returned (.tuple #[.string (sk st), .bool true])) : folRes o e := by
  rw [h]; exact he
theorem folRes_none {o : Option (List Nat)} {e : Ending} (h : o = none) (τ : ByteArray) (he : e = .returned (.tuple #[.string τ, .bool false])) : folRes o e := by
  rw [h]; exact ⟨τ, he⟩
theorem ret2s {a b : ByteArray} (h : a = b) : Ending.returned (.tuple #[.string a, .bool true]) = .returned (.tuple #[.string b, .bool true]) := by rw [h]

set_option maxRecDepth 100000 in
set_option maxHeartbeats 400000 in
theorem f102_84 (st : List Nat) (w : World) (hst : st.length ≤ 200) :
    Calls Try.prog 74 #[.string (sk (102 :: st)), .int .u8 84] w fun e w' => folRes (fol 102 st 84) e ∧ w' = w := by
  have hsz := sk_size (102 :: st)
  have hsz2 := sk_size st
  have hix := sk_top 102 st (by omega)
  have hrs := sk_rest 102 st
  simp only [List.length_cons] at hsz
  go_enter Try.func74, Try.ntmps74
  go_wp2
  go_ret2
  exact ⟨folRes_some (fol_atom _ rfl) rfl, rfl⟩

set_option maxRecDepth 100000 in
set_option maxHeartbeats 400000 in
theorem f102_let (st : List Nat) (w : World) (c : Nat) (hc : c < 256) (x0 : 97 ≤ (c : Int)) (x1 : (c : Int) ≤ 122) (hst : st.length ≤ 200) :
    Calls Try.prog 74 #[.string (sk (102 :: st)), .int .u8 (c : Int)] w fun e w' => folRes (fol 102 st c) e ∧ w' = w := by
  have hsz := sk_size (102 :: st)
  have hsz2 := sk_size st
  have hix := sk_top 102 st (by omega)
  have hrs := sk_rest 102 st
  simp only [List.length_cons] at hsz
  have b84 : ((c : Int) == 84) = false := by rw [beq_eq_false_iff_ne]; omega
  go_enter Try.func74, Try.ntmps74
  go_wp2
  go_ret2
  exact ⟨folRes_some (fol_atom _ (by simp [isAtom]; omega)) rfl, rfl⟩

set_option maxRecDepth 100000 in
set_option maxHeartbeats 400000 in
theorem f102_33 (st : List Nat) (w : World) (hst : st.length ≤ 200) :
    Calls Try.prog 74 #[.string (sk (102 :: st)), .int .u8 33] w fun e w' => folRes (fol 102 st 33) e ∧ w' = w := by
  have hsz := sk_size (102 :: st)
  have hsz2 := sk_size st
  have hix := sk_top 102 st (by omega)
  have hrs := sk_rest 102 st
  simp only [List.length_cons] at hsz
  go_enter Try.func74, Try.ntmps74
  go_wp2
  go_ret2
  exact ⟨folRes_some (fol_not _) (ret2s (sk_add [102] st _ rfl)), rfl⟩

set_option maxRecDepth 100000 in
set_option maxHeartbeats 400000 in
theorem f102_40 (st : List Nat) (w : World) (hst : st.length ≤ 200) :
    Calls Try.prog 74 #[.string (sk (102 :: st)), .int .u8 40] w fun e w' => folRes (fol 102 st 40) e ∧ w' = w := by
  have hsz := sk_size (102 :: st)
  have hsz2 := sk_size st
  have hix := sk_top 102 st (by omega)
  have hrs := sk_rest 102 st
  simp only [List.length_cons] at hsz
  go_enter Try.func74, Try.ntmps74
  go_wp2
  go_ret2
  exact ⟨folRes_some (fol_open _) (ret2s (sk_add [102, 111, 102, 41] st _ rfl)), rfl⟩

set_option maxRecDepth 100000 in
set_option maxHeartbeats 400000 in
theorem f102_69 (st : List Nat) (w : World) (hst : st.length ≤ 200) :
    Calls Try.prog 74 #[.string (sk (102 :: st)), .int .u8 69] w fun e w' => folRes (fol 102 st 69) e ∧ w' = w := by
  have hsz := sk_size (102 :: st)
  have hsz2 := sk_size st
  have hix := sk_top 102 st (by omega)
  have hrs := sk_rest 102 st
  simp only [List.length_cons] at hsz
  go_enter Try.func74, Try.ntmps74
  go_wp2
  go_ret2
  exact ⟨folRes_some (fol_way _ (.inl rfl)) (ret2s (sk_add [119] st _ rfl)), rfl⟩

set_option maxRecDepth 100000 in
set_option maxHeartbeats 400000 in
theorem f102_65 (st : List Nat) (w : World) (hst : st.length ≤ 200) :
    Calls Try.prog 74 #[.string (sk (102 :: st)), .int .u8 65] w fun e w' => folRes (fol 102 st 65) e ∧ w' = w := by
  have hsz := sk_size (102 :: st)
  have hsz2 := sk_size st
  have hix := sk_top 102 st (by omega)
  have hrs := sk_rest 102 st
  simp only [List.length_cons] at hsz
  go_enter Try.func74, Try.ntmps74
  go_wp2
  go_ret2
  exact ⟨folRes_some (fol_way _ (.inr rfl)) (ret2s (sk_add [119] st _ rfl)), rfl⟩

set_option maxRecDepth 100000 in
set_option maxHeartbeats 400000 in
theorem f102_lo (st : List Nat) (w : World) (c : Nat) (hc : c < 256) (x0 : ¬ (c : Int) = 84) (x1 : ¬ (c : Int) = 33) (x2 : ¬ (c : Int) = 40) (x3 : ¬ (c : Int) = 69) (x4 : ¬ (c : Int) = 65) (x5 : ¬ 97 ≤ (c : Int)) (hst : st.length ≤ 200) :
    Calls Try.prog 74 #[.string (sk (102 :: st)), .int .u8 (c : Int)] w fun e w' => folRes (fol 102 st c) e ∧ w' = w := by
  have hsz := sk_size (102 :: st)
  have hsz2 := sk_size st
  have hix := sk_top 102 st (by omega)
  have hrs := sk_rest 102 st
  simp only [List.length_cons] at hsz
  have b84 : ((c : Int) == 84) = false := by rw [beq_eq_false_iff_ne]; omega
  have b33 : ((c : Int) == 33) = false := by rw [beq_eq_false_iff_ne]; omega
  have b40 : ((c : Int) == 40) = false := by rw [beq_eq_false_iff_ne]; omega
  have b69 : ((c : Int) == 69) = false := by rw [beq_eq_false_iff_ne]; omega
  have b65 : ((c : Int) == 65) = false := by rw [beq_eq_false_iff_ne]; omega
  go_enter Try.func74, Try.ntmps74
  go_wp2
  go_ret2
  exact ⟨folRes_none (fol_none102 _ (by simp [isAtom]; omega) (by omega) (by omega) (by omega)) _ rfl, rfl⟩

set_option maxRecDepth 100000 in
set_option maxHeartbeats 400000 in
theorem f102_hi (st : List Nat) (w : World) (c : Nat) (hc : c < 256) (x0 : ¬ (c : Int) = 84) (x1 : ¬ (c : Int) = 33) (x2 : ¬ (c : Int) = 40) (x3 : ¬ (c : Int) = 69) (x4 : ¬ (c : Int) = 65) (x5 : 97 ≤ (c : Int)) (x6 : ¬ (c : Int) ≤ 122) (hst : st.length ≤ 200) :
    Calls Try.prog 74 #[.string (sk (102 :: st)), .int .u8 (c : Int)] w fun e w' => folRes (fol 102 st c) e ∧ w' = w := by
  have hsz := sk_size (102 :: st)
  have hsz2 := sk_size st
  have hix := sk_top 102 st (by omega)
  have hrs := sk_rest 102 st
  simp only [List.length_cons] at hsz
  have b84 : ((c : Int) == 84) = false := by rw [beq_eq_false_iff_ne]; omega
  have b33 : ((c : Int) == 33) = false := by rw [beq_eq_false_iff_ne]; omega
  have b40 : ((c : Int) == 40) = false := by rw [beq_eq_false_iff_ne]; omega
  have b69 : ((c : Int) == 69) = false := by rw [beq_eq_false_iff_ne]; omega
  have b65 : ((c : Int) == 65) = false := by rw [beq_eq_false_iff_ne]; omega
  go_enter Try.func74, Try.ntmps74
  go_wp2
  go_ret2
  exact ⟨folRes_none (fol_none102 _ (by simp [isAtom]; omega) (by omega) (by omega) (by omega)) _ rfl, rfl⟩

set_option maxRecDepth 100000 in
set_option maxHeartbeats 400000 in
theorem f111_38 (st : List Nat) (w : World) (hst : st.length ≤ 200) :
    Calls Try.prog 74 #[.string (sk (111 :: st)), .int .u8 38] w fun e w' => folRes (fol 111 st 38) e ∧ w' = w := by
  have hsz := sk_size (111 :: st)
  have hsz2 := sk_size st
  have hix := sk_top 111 st (by omega)
  have hrs := sk_rest 111 st
  simp only [List.length_cons] at hsz
  go_enter Try.func74, Try.ntmps74
  go_wp2
  go_ret2
  exact ⟨folRes_some (fol_bin _ (.inl rfl)) rfl, rfl⟩

set_option maxRecDepth 100000 in
set_option maxHeartbeats 400000 in
theorem f111_43 (st : List Nat) (w : World) (hst : st.length ≤ 200) :
    Calls Try.prog 74 #[.string (sk (111 :: st)), .int .u8 43] w fun e w' => folRes (fol 111 st 43) e ∧ w' = w := by
  have hsz := sk_size (111 :: st)
  have hsz2 := sk_size st
  have hix := sk_top 111 st (by omega)
  have hrs := sk_rest 111 st
  simp only [List.length_cons] at hsz
  go_enter Try.func74, Try.ntmps74
  go_wp2
  go_ret2
  exact ⟨folRes_some (fol_bin _ (.inr rfl)) rfl, rfl⟩

set_option maxRecDepth 100000 in
set_option maxHeartbeats 400000 in
theorem f111_no (st : List Nat) (w : World) (c : Nat) (hc : c < 256) (x0 : ¬ (c : Int) = 38) (x1 : ¬ (c : Int) = 43) (hst : st.length ≤ 200) :
    Calls Try.prog 74 #[.string (sk (111 :: st)), .int .u8 (c : Int)] w fun e w' => folRes (fol 111 st c) e ∧ w' = w := by
  have hsz := sk_size (111 :: st)
  have hsz2 := sk_size st
  have hix := sk_top 111 st (by omega)
  have hrs := sk_rest 111 st
  simp only [List.length_cons] at hsz
  have b38 : ((c : Int) == 38) = false := by rw [beq_eq_false_iff_ne]; omega
  have b43 : ((c : Int) == 43) = false := by rw [beq_eq_false_iff_ne]; omega
  go_enter Try.func74, Try.ntmps74
  go_wp2
  go_ret2
  exact ⟨folRes_none (by rw [fol_111, if_neg (by omega)]) _ rfl, rfl⟩

set_option maxRecDepth 100000 in
set_option maxHeartbeats 400000 in
theorem f117_85 (st : List Nat) (w : World) (hst : st.length ≤ 200) :
    Calls Try.prog 74 #[.string (sk (117 :: st)), .int .u8 85] w fun e w' => folRes (fol 117 st 85) e ∧ w' = w := by
  have hsz := sk_size (117 :: st)
  have hsz2 := sk_size st
  have hix := sk_top 117 st (by omega)
  have hrs := sk_rest 117 st
  simp only [List.length_cons] at hsz
  go_enter Try.func74, Try.ntmps74
  go_wp2
  go_ret2
  exact ⟨folRes_some (fol_ur _ (.inl rfl)) rfl, rfl⟩

set_option maxRecDepth 100000 in
set_option maxHeartbeats 400000 in
theorem f117_82 (st : List Nat) (w : World) (hst : st.length ≤ 200) :
    Calls Try.prog 74 #[.string (sk (117 :: st)), .int .u8 82] w fun e w' => folRes (fol 117 st 82) e ∧ w' = w := by
  have hsz := sk_size (117 :: st)
  have hsz2 := sk_size st
  have hix := sk_top 117 st (by omega)
  have hrs := sk_rest 117 st
  simp only [List.length_cons] at hsz
  go_enter Try.func74, Try.ntmps74
  go_wp2
  go_ret2
  exact ⟨folRes_some (fol_ur _ (.inr rfl)) rfl, rfl⟩

set_option maxRecDepth 100000 in
set_option maxHeartbeats 400000 in
theorem f117_no (st : List Nat) (w : World) (c : Nat) (hc : c < 256) (x0 : ¬ (c : Int) = 85) (x1 : ¬ (c : Int) = 82) (hst : st.length ≤ 200) :
    Calls Try.prog 74 #[.string (sk (117 :: st)), .int .u8 (c : Int)] w fun e w' => folRes (fol 117 st c) e ∧ w' = w := by
  have hsz := sk_size (117 :: st)
  have hsz2 := sk_size st
  have hix := sk_top 117 st (by omega)
  have hrs := sk_rest 117 st
  simp only [List.length_cons] at hsz
  have b85 : ((c : Int) == 85) = false := by rw [beq_eq_false_iff_ne]; omega
  have b82 : ((c : Int) == 82) = false := by rw [beq_eq_false_iff_ne]; omega
  go_enter Try.func74, Try.ntmps74
  go_wp2
  go_ret2
  exact ⟨folRes_none (by rw [fol_117, if_neg (by omega)]) _ rfl, rfl⟩

set_option maxRecDepth 100000 in
set_option maxHeartbeats 400000 in
theorem f119_91 (st : List Nat) (w : World) (hst : st.length ≤ 200) :
    Calls Try.prog 74 #[.string (sk (119 :: st)), .int .u8 91] w fun e w' => folRes (fol 119 st 91) e ∧ w' = w := by
  have hsz := sk_size (119 :: st)
  have hsz2 := sk_size st
  have hix := sk_top 119 st (by omega)
  have hrs := sk_rest 119 st
  simp only [List.length_cons] at hsz
  go_enter Try.func74, Try.ntmps74
  go_wp2
  go_ret2
  exact ⟨folRes_some (fol_br _) (ret2s (sk_add [102, 117, 102, 93] st _ rfl)), rfl⟩

set_option maxRecDepth 100000 in
set_option maxHeartbeats 400000 in
theorem f119_88 (st : List Nat) (w : World) (hst : st.length ≤ 200) :
    Calls Try.prog 74 #[.string (sk (119 :: st)), .int .u8 88] w fun e w' => folRes (fol 119 st 88) e ∧ w' = w := by
  have hsz := sk_size (119 :: st)
  have hsz2 := sk_size st
  have hix := sk_top 119 st (by omega)
  have hrs := sk_rest 119 st
  simp only [List.length_cons] at hsz
  go_enter Try.func74, Try.ntmps74
  go_wp2
  go_ret2
  exact ⟨folRes_some (fol_x _) (ret2s (sk_add [102] st _ rfl)), rfl⟩

set_option maxRecDepth 100000 in
set_option maxHeartbeats 400000 in
theorem f119_no (st : List Nat) (w : World) (c : Nat) (hc : c < 256) (x0 : ¬ (c : Int) = 91) (x1 : ¬ (c : Int) = 88) (hst : st.length ≤ 200) :
    Calls Try.prog 74 #[.string (sk (119 :: st)), .int .u8 (c : Int)] w fun e w' => folRes (fol 119 st c) e ∧ w' = w := by
  have hsz := sk_size (119 :: st)
  have hsz2 := sk_size st
  have hix := sk_top 119 st (by omega)
  have hrs := sk_rest 119 st
  simp only [List.length_cons] at hsz
  have b91 : ((c : Int) == 91) = false := by rw [beq_eq_false_iff_ne]; omega
  have b88 : ((c : Int) == 88) = false := by rw [beq_eq_false_iff_ne]; omega
  go_enter Try.func74, Try.ntmps74
  go_wp2
  go_ret2
  exact ⟨folRes_none (fol_119n _ (by omega) (by omega)) _ rfl, rfl⟩

set_option maxRecDepth 100000 in
set_option maxHeartbeats 400000 in
theorem f41_41 (st : List Nat) (w : World) (hst : st.length ≤ 200) :
    Calls Try.prog 74 #[.string (sk (41 :: st)), .int .u8 41] w fun e w' => folRes (fol 41 st 41) e ∧ w' = w := by
  have hsz := sk_size (41 :: st)
  have hsz2 := sk_size st
  have hix := sk_top 41 st (by omega)
  have hrs := sk_rest 41 st
  simp only [List.length_cons] at hsz
  go_enter Try.func74, Try.ntmps74
  go_wp2
  go_ret2
  exact ⟨folRes_some (fol_41 _) rfl, rfl⟩

set_option maxRecDepth 100000 in
set_option maxHeartbeats 400000 in
theorem f41_no (st : List Nat) (w : World) (c : Nat) (hc : c < 256) (x0 : ¬ (c : Int) = 41) (hst : st.length ≤ 200) :
    Calls Try.prog 74 #[.string (sk (41 :: st)), .int .u8 (c : Int)] w fun e w' => folRes (fol 41 st c) e ∧ w' = w := by
  have hsz := sk_size (41 :: st)
  have hsz2 := sk_size st
  have hix := sk_top 41 st (by omega)
  have hrs := sk_rest 41 st
  simp only [List.length_cons] at hsz
  have b41 : ((c : Int) == 41) = false := by rw [beq_eq_false_iff_ne]; omega
  go_enter Try.func74, Try.ntmps74
  go_wp2
  go_ret2
  exact ⟨folRes_none (by rw [fol_41', if_neg (by omega)]) _ rfl, rfl⟩

set_option maxRecDepth 100000 in
set_option maxHeartbeats 400000 in
theorem f93_93 (st : List Nat) (w : World) (hst : st.length ≤ 200) :
    Calls Try.prog 74 #[.string (sk (93 :: st)), .int .u8 93] w fun e w' => folRes (fol 93 st 93) e ∧ w' = w := by
  have hsz := sk_size (93 :: st)
  have hsz2 := sk_size st
  have hix := sk_top 93 st (by omega)
  have hrs := sk_rest 93 st
  simp only [List.length_cons] at hsz
  go_enter Try.func74, Try.ntmps74
  go_wp2
  go_ret2
  exact ⟨folRes_some (fol_93 _) rfl, rfl⟩

set_option maxRecDepth 100000 in
set_option maxHeartbeats 400000 in
theorem f93_no (st : List Nat) (w : World) (c : Nat) (hc : c < 256) (x0 : ¬ (c : Int) = 93) (hst : st.length ≤ 200) :
    Calls Try.prog 74 #[.string (sk (93 :: st)), .int .u8 (c : Int)] w fun e w' => folRes (fol 93 st c) e ∧ w' = w := by
  have hsz := sk_size (93 :: st)
  have hsz2 := sk_size st
  have hix := sk_top 93 st (by omega)
  have hrs := sk_rest 93 st
  simp only [List.length_cons] at hsz
  have b93 : ((c : Int) == 93) = false := by rw [beq_eq_false_iff_ne]; omega
  go_enter Try.func74, Try.ntmps74
  go_wp2
  go_ret2
  exact ⟨folRes_none (by rw [fol_93', if_neg (by omega)]) _ rfl, rfl⟩

theorem follows_any (top : Nat) (st : List Nat) (c : Nat) (w : World) (ht : okTop top) (hc : c < 256) (hst : st.length ≤ 200) :
    Calls Try.prog 74 #[.string (sk (top :: st)), .int .u8 (c : Int)] w fun e w' => folRes (fol top st c) e ∧ w' = w := by
  rcases ht with rfl | rfl | rfl | rfl | rfl | rfl
  · by_cases h1 : c = 84
    · subst h1; exact f102_84 st w hst
    by_cases h2 : c = 33
    · subst h2; exact f102_33 st w hst
    by_cases h3 : c = 40
    · subst h3; exact f102_40 st w hst
    by_cases h4 : c = 69
    · subst h4; exact f102_69 st w hst
    by_cases h5 : c = 65
    · subst h5; exact f102_65 st w hst
    by_cases h6 : 97 ≤ (c : Int)
    · by_cases h7 : (c : Int) ≤ 122
      · exact f102_let st w c hc h6 h7 hst
      · exact f102_hi st w c hc (by omega) (by omega) (by omega) (by omega) (by omega) h6 h7 hst
    · exact f102_lo st w c hc (by omega) (by omega) (by omega) (by omega) (by omega) h6 hst
  · by_cases h1 : c = 38
    · subst h1; exact f111_38 st w hst
    by_cases h2 : c = 43
    · subst h2; exact f111_43 st w hst
    exact f111_no st w c hc (by omega) (by omega) hst
  · by_cases h1 : c = 85
    · subst h1; exact f117_85 st w hst
    by_cases h2 : c = 82
    · subst h2; exact f117_82 st w hst
    exact f117_no st w c hc (by omega) (by omega) hst
  · by_cases h1 : c = 91
    · subst h1; exact f119_91 st w hst
    by_cases h2 : c = 88
    · subst h2; exact f119_88 st w hst
    exact f119_no st w c hc (by omega) (by omega) hst
  · by_cases h1 : c = 41
    · subst h1; exact f41_41 st w hst
    exact f41_no st w c hc (by omega) hst
  · by_cases h1 : c = 93
    · subst h1; exact f93_93 st w hst
    exact f93_no st w c hc (by omega) hst

end Go.Proofs.Ytkjnhhbibaimfaa
