import Derived.Lib.Strings
import Derived.BigQuiet
import Derived.Deep.RegionWith
import Derived.Test.YtcfbfdjmcabnkabGreatG1
import Derived.Test.YtcfbfdjmcabnkabGreatG2
set_option maxRecDepth 100000
set_option maxHeartbeats 1000000
namespace Go.Proofs.YtcfbfdjmcabnkabGreat
open Go.RowKit Fw
set_option linter.unusedVariables false
def sk (st : List Nat) : ByteArray := ⟨((st.map b8).reverse).toArray⟩
theorem sk_size (st : List Nat) : (sk st).size = st.length := by simp [sk, ByteArray.size]
theorem sk_top (top : Nat) (st : List Nat) (ht : top < 256) (h : st.length < (sk (top :: st)).size) : (sk (top :: st))[st.length].toNat = top := by
 have e : (sk (top :: st))[st.length] = b8 top := by
   show ((((top :: st).map b8).reverse).toArray)[st.length]'_ = b8 top
   simp
 rw [e, b8_nat ht]
theorem bytes_ext {a b : ByteArray} (h : a.data.toList = b.data.toList) : a = b := by
 cases a; cases b
 simp at h
 rw [ByteArray.mk.injEq, <- Array.toList_inj]
 exact congrArg Array.toList h
theorem sk_list (st : List Nat) : (sk st).data.toList = (st.map b8).reverse := by simp [sk]
theorem sk_rest (top : Nat) (st : List Nat) : (sk (top :: st)).extract 0 st.length = sk st := by
 apply bytes_ext
 rw [Lib.extract_data, sk_list, sk_list]
 simp
theorem sk_add (l st : List Nat) (x : ByteArray) (h : x.data.toList = (l.map b8).reverse) : sk st ++ x = sk (l ++ st) := by
 apply bytes_ext
 rw [ByteArray.data_append, Array.toList_append, h, sk_list, sk_list]
 simp
theorem sk_empty (st : List Nat) : (sk st).toList.isEmpty = st.isEmpty := by
 rw [ByteArray.toList_eq, sk_list]
 cases st <;> simp
def okTop (x : Nat) : Prop := x = 102 ∨ x = 111 ∨ x = 117 ∨ x = 119 ∨ x = 41 ∨ x = 93
theorem fol_119n {c : Nat} (st : List Nat) (h1 : ¬ c = 91) (h2 : ¬ c = 88) : fol 119 st c = none := by simp [fol, h1, h2]
def folRes (o : Option (List Nat)) (e : Ending) : Prop :=
 match o with
 | some st => e = .returned (.tuple #[.string (sk st), .bool true])
 | none => ∃ τ, e = .returned (.tuple #[.string τ, .bool false])
theorem folRes_some {o : Option (List Nat)} {st : List Nat} {e : Ending} (h : o = some st) (he : e = .returned (.tuple #[.string (sk st), .bool true])) : folRes o e := by
 rw [h]; exact he
theorem folRes_none {o : Option (List Nat)} {e : Ending} (h : o = none) (τ : ByteArray) (he : e = .returned (.tuple #[.string τ, .bool false])) : folRes o e := by
 rw [h]; exact ⟨τ, he⟩
theorem ret2s {a b : ByteArray} (h : a = b) : Ending.returned (.tuple #[.string a, .bool true]) = .returned (.tuple #[.string b, .bool true]) := by rw [h]
theorem f102_84 (st : List Nat) (w : World) (hst : st.length <= 200) :
   Calls Tryz.prog 42 #[.string (sk (102 :: st)), .int .u8 84] w fun e w' => folRes (fol 102 st 84) e ∧ w' = w := by
 have hsz := sk_size (102 :: st)
 have hsz2 := sk_size st
 have hix := sk_top 102 st (by omega)
 have hrs := sk_rest 102 st
 simp only [List.length_cons] at hsz
 go_enter Tryz.func42, Tryz.ntmps42
 go_wp2
 go_ret2
 exact ⟨folRes_some (fol_atom _ rfl) rfl, rfl⟩
theorem f102_let (st : List Nat) (w : World) (c : Nat) (hc : c < 256) (x0 : 97 <= (c : Int)) (x1 : (c : Int) <= 122) (hst : st.length <= 200) :
   Calls Tryz.prog 42 #[.string (sk (102 :: st)), .int .u8 (c : Int)] w fun e w' => folRes (fol 102 st c) e ∧ w' = w := by
 have hsz := sk_size (102 :: st)
 have hsz2 := sk_size st
 have hix := sk_top 102 st (by omega)
 have hrs := sk_rest 102 st
 simp only [List.length_cons] at hsz
 have b84 : ((c : Int) == 84) = false := by rw [beq_eq_false_iff_ne]; omega
 go_enter Tryz.func42, Tryz.ntmps42
 go_wp2
 go_ret2
 exact ⟨folRes_some (fol_atom _ (by simp [isAtom]; omega)) rfl, rfl⟩
theorem f102_33 (st : List Nat) (w : World) (hst : st.length <= 200) :
   Calls Tryz.prog 42 #[.string (sk (102 :: st)), .int .u8 33] w fun e w' => folRes (fol 102 st 33) e ∧ w' = w := by
 have hsz := sk_size (102 :: st)
 have hsz2 := sk_size st
 have hix := sk_top 102 st (by omega)
 have hrs := sk_rest 102 st
 simp only [List.length_cons] at hsz
 go_enter Tryz.func42, Tryz.ntmps42
 go_wp2
 go_ret2
 exact ⟨folRes_some (fol_not _) (ret2s (sk_add [102] st _ rfl)), rfl⟩
theorem f102_40 (st : List Nat) (w : World) (hst : st.length <= 200) :
   Calls Tryz.prog 42 #[.string (sk (102 :: st)), .int .u8 40] w fun e w' => folRes (fol 102 st 40) e ∧ w' = w := by
 have hsz := sk_size (102 :: st)
 have hsz2 := sk_size st
 have hix := sk_top 102 st (by omega)
 have hrs := sk_rest 102 st
 simp only [List.length_cons] at hsz
 go_enter Tryz.func42, Tryz.ntmps42
 go_wp2
 go_ret2
 exact ⟨folRes_some (fol_open _) (ret2s (sk_add [102, 111, 102, 41] st _ rfl)), rfl⟩
theorem f102_69 (st : List Nat) (w : World) (hst : st.length <= 200) :
   Calls Tryz.prog 42 #[.string (sk (102 :: st)), .int .u8 69] w fun e w' => folRes (fol 102 st 69) e ∧ w' = w := by
 have hsz := sk_size (102 :: st)
 have hsz2 := sk_size st
 have hix := sk_top 102 st (by omega)
 have hrs := sk_rest 102 st
 simp only [List.length_cons] at hsz
 go_enter Tryz.func42, Tryz.ntmps42
 go_wp2
 go_ret2
 exact ⟨folRes_some (fol_way _ (.inl rfl)) (ret2s (sk_add [119] st _ rfl)), rfl⟩
theorem f102_65 (st : List Nat) (w : World) (hst : st.length <= 200) :
   Calls Tryz.prog 42 #[.string (sk (102 :: st)), .int .u8 65] w fun e w' => folRes (fol 102 st 65) e ∧ w' = w := by
 have hsz := sk_size (102 :: st)
 have hsz2 := sk_size st
 have hix := sk_top 102 st (by omega)
 have hrs := sk_rest 102 st
 simp only [List.length_cons] at hsz
 go_enter Tryz.func42, Tryz.ntmps42
 go_wp2
 go_ret2
 exact ⟨folRes_some (fol_way _ (.inr rfl)) (ret2s (sk_add [119] st _ rfl)), rfl⟩
theorem f102_lo (st : List Nat) (w : World) (c : Nat) (hc : c < 256) (x0 : ¬ (c : Int) = 84) (x1 : ¬ (c : Int) = 33) (x2 : ¬ (c : Int) = 40) (x3 : ¬ (c : Int) = 69) (x4 : ¬ (c : Int) = 65) (x5 : ¬ 97 <= (c : Int)) (hst : st.length <= 200) :
   Calls Tryz.prog 42 #[.string (sk (102 :: st)), .int .u8 (c : Int)] w fun e w' => folRes (fol 102 st c) e ∧ w' = w := by
 have hsz := sk_size (102 :: st)
 have hsz2 := sk_size st
 have hix := sk_top 102 st (by omega)
 have hrs := sk_rest 102 st
 simp only [List.length_cons] at hsz
 have b84 : ((c : Int) == 84) = false := by rw [beq_eq_false_iff_ne]; omega
 have b33 : ((c : Int) == 33) = false := by rw [beq_eq_false_iff_ne]; omega
 have b40 : ((c : Int) == 40) = false := by rw [beq_eq_false_iff_ne]; omega
 have b69 : ((c : Int) == 69) = false := by rw [beq_eq_false_iff_ne]; omega
 have b65 : ((c : Int) == 65) = false := by rw [beq_eq_false_iff_ne]; omega
 go_enter Tryz.func42, Tryz.ntmps42
 go_wp2
 go_ret2
 exact ⟨folRes_none (fol_none102 _ (by simp [isAtom]; omega) (by omega) (by omega) (by omega)) _ rfl, rfl⟩
theorem f102_hi (st : List Nat) (w : World) (c : Nat) (hc : c < 256) (x0 : ¬ (c : Int) = 84) (x1 : ¬ (c : Int) = 33) (x2 : ¬ (c : Int) = 40) (x3 : ¬ (c : Int) = 69) (x4 : ¬ (c : Int) = 65) (x5 : 97 <= (c : Int)) (x6 : ¬ (c : Int) <= 122) (hst : st.length <= 200) :
   Calls Tryz.prog 42 #[.string (sk (102 :: st)), .int .u8 (c : Int)] w fun e w' => folRes (fol 102 st c) e ∧ w' = w := by
 have hsz := sk_size (102 :: st)
 have hsz2 := sk_size st
 have hix := sk_top 102 st (by omega)
 have hrs := sk_rest 102 st
 simp only [List.length_cons] at hsz
 have b84 : ((c : Int) == 84) = false := by rw [beq_eq_false_iff_ne]; omega
 have b33 : ((c : Int) == 33) = false := by rw [beq_eq_false_iff_ne]; omega
 have b40 : ((c : Int) == 40) = false := by rw [beq_eq_false_iff_ne]; omega
 have b69 : ((c : Int) == 69) = false := by rw [beq_eq_false_iff_ne]; omega
 have b65 : ((c : Int) == 65) = false := by rw [beq_eq_false_iff_ne]; omega
 go_enter Tryz.func42, Tryz.ntmps42
 go_wp2
 go_ret2
 exact ⟨folRes_none (fol_none102 _ (by simp [isAtom]; omega) (by omega) (by omega) (by omega)) _ rfl, rfl⟩
theorem f111_38 (st : List Nat) (w : World) (hst : st.length <= 200) :
   Calls Tryz.prog 42 #[.string (sk (111 :: st)), .int .u8 38] w fun e w' => folRes (fol 111 st 38) e ∧ w' = w := by
 have hsz := sk_size (111 :: st)
 have hsz2 := sk_size st
 have hix := sk_top 111 st (by omega)
 have hrs := sk_rest 111 st
 simp only [List.length_cons] at hsz
 go_enter Tryz.func42, Tryz.ntmps42
 go_wp2
 go_ret2
 exact ⟨folRes_some (fol_bin _ (.inl rfl)) rfl, rfl⟩
theorem f111_43 (st : List Nat) (w : World) (hst : st.length <= 200) :
   Calls Tryz.prog 42 #[.string (sk (111 :: st)), .int .u8 43] w fun e w' => folRes (fol 111 st 43) e ∧ w' = w := by
 have hsz := sk_size (111 :: st)
 have hsz2 := sk_size st
 have hix := sk_top 111 st (by omega)
 have hrs := sk_rest 111 st
 simp only [List.length_cons] at hsz
 go_enter Tryz.func42, Tryz.ntmps42
 go_wp2
 go_ret2
 exact ⟨folRes_some (fol_bin _ (.inr rfl)) rfl, rfl⟩
theorem f111_no (st : List Nat) (w : World) (c : Nat) (hc : c < 256) (x0 : ¬ (c : Int) = 38) (x1 : ¬ (c : Int) = 43) (hst : st.length <= 200) :
   Calls Tryz.prog 42 #[.string (sk (111 :: st)), .int .u8 (c : Int)] w fun e w' => folRes (fol 111 st c) e ∧ w' = w := by
 have hsz := sk_size (111 :: st)
 have hsz2 := sk_size st
 have hix := sk_top 111 st (by omega)
 have hrs := sk_rest 111 st
 simp only [List.length_cons] at hsz
 have b38 : ((c : Int) == 38) = false := by rw [beq_eq_false_iff_ne]; omega
 have b43 : ((c : Int) == 43) = false := by rw [beq_eq_false_iff_ne]; omega
 go_enter Tryz.func42, Tryz.ntmps42
 go_wp2
 go_ret2
 exact ⟨folRes_none (by rw [fol_111, if_neg (by omega)]) _ rfl, rfl⟩
theorem f117_85 (st : List Nat) (w : World) (hst : st.length <= 200) :
   Calls Tryz.prog 42 #[.string (sk (117 :: st)), .int .u8 85] w fun e w' => folRes (fol 117 st 85) e ∧ w' = w := by
 have hsz := sk_size (117 :: st)
 have hsz2 := sk_size st
 have hix := sk_top 117 st (by omega)
 have hrs := sk_rest 117 st
 simp only [List.length_cons] at hsz
 go_enter Tryz.func42, Tryz.ntmps42
 go_wp2
 go_ret2
 exact ⟨folRes_some (fol_ur _ (.inl rfl)) rfl, rfl⟩
theorem f117_82 (st : List Nat) (w : World) (hst : st.length <= 200) :
   Calls Tryz.prog 42 #[.string (sk (117 :: st)), .int .u8 82] w fun e w' => folRes (fol 117 st 82) e ∧ w' = w := by
 have hsz := sk_size (117 :: st)
 have hsz2 := sk_size st
 have hix := sk_top 117 st (by omega)
 have hrs := sk_rest 117 st
 simp only [List.length_cons] at hsz
 go_enter Tryz.func42, Tryz.ntmps42
 go_wp2
 go_ret2
 exact ⟨folRes_some (fol_ur _ (.inr rfl)) rfl, rfl⟩
theorem f117_no (st : List Nat) (w : World) (c : Nat) (hc : c < 256) (x0 : ¬ (c : Int) = 85) (x1 : ¬ (c : Int) = 82) (hst : st.length <= 200) :
   Calls Tryz.prog 42 #[.string (sk (117 :: st)), .int .u8 (c : Int)] w fun e w' => folRes (fol 117 st c) e ∧ w' = w := by
 have hsz := sk_size (117 :: st)
 have hsz2 := sk_size st
 have hix := sk_top 117 st (by omega)
 have hrs := sk_rest 117 st
 simp only [List.length_cons] at hsz
 have b85 : ((c : Int) == 85) = false := by rw [beq_eq_false_iff_ne]; omega
 have b82 : ((c : Int) == 82) = false := by rw [beq_eq_false_iff_ne]; omega
 go_enter Tryz.func42, Tryz.ntmps42
 go_wp2
 go_ret2
 exact ⟨folRes_none (by rw [fol_117, if_neg (by omega)]) _ rfl, rfl⟩
theorem f119_91 (st : List Nat) (w : World) (hst : st.length <= 200) :
   Calls Tryz.prog 42 #[.string (sk (119 :: st)), .int .u8 91] w fun e w' => folRes (fol 119 st 91) e ∧ w' = w := by
 have hsz := sk_size (119 :: st)
 have hsz2 := sk_size st
 have hix := sk_top 119 st (by omega)
 have hrs := sk_rest 119 st
 simp only [List.length_cons] at hsz
 go_enter Tryz.func42, Tryz.ntmps42
 go_wp2
 go_ret2
 exact ⟨folRes_some (fol_br _) (ret2s (sk_add [102, 117, 102, 93] st _ rfl)), rfl⟩
theorem f119_88 (st : List Nat) (w : World) (hst : st.length <= 200) :
   Calls Tryz.prog 42 #[.string (sk (119 :: st)), .int .u8 88] w fun e w' => folRes (fol 119 st 88) e ∧ w' = w := by
 have hsz := sk_size (119 :: st)
 have hsz2 := sk_size st
 have hix := sk_top 119 st (by omega)
 have hrs := sk_rest 119 st
 simp only [List.length_cons] at hsz
 go_enter Tryz.func42, Tryz.ntmps42
 go_wp2
 go_ret2
 exact ⟨folRes_some (fol_x _) (ret2s (sk_add [102] st _ rfl)), rfl⟩
theorem f119_no (st : List Nat) (w : World) (c : Nat) (hc : c < 256) (x0 : ¬ (c : Int) = 91) (x1 : ¬ (c : Int) = 88) (hst : st.length <= 200) :
   Calls Tryz.prog 42 #[.string (sk (119 :: st)), .int .u8 (c : Int)] w fun e w' => folRes (fol 119 st c) e ∧ w' = w := by
 have hsz := sk_size (119 :: st)
 have hsz2 := sk_size st
 have hix := sk_top 119 st (by omega)
 have hrs := sk_rest 119 st
 simp only [List.length_cons] at hsz
 have b91 : ((c : Int) == 91) = false := by rw [beq_eq_false_iff_ne]; omega
 have b88 : ((c : Int) == 88) = false := by rw [beq_eq_false_iff_ne]; omega
 go_enter Tryz.func42, Tryz.ntmps42
 go_wp2
 go_ret2
 exact ⟨folRes_none (fol_119n _ (by omega) (by omega)) _ rfl, rfl⟩
theorem f41_41 (st : List Nat) (w : World) (hst : st.length <= 200) :
   Calls Tryz.prog 42 #[.string (sk (41 :: st)), .int .u8 41] w fun e w' => folRes (fol 41 st 41) e ∧ w' = w := by
 have hsz := sk_size (41 :: st)
 have hsz2 := sk_size st
 have hix := sk_top 41 st (by omega)
 have hrs := sk_rest 41 st
 simp only [List.length_cons] at hsz
 go_enter Tryz.func42, Tryz.ntmps42
 go_wp2
 go_ret2
 exact ⟨folRes_some (fol_41 _) rfl, rfl⟩
theorem f41_no (st : List Nat) (w : World) (c : Nat) (hc : c < 256) (x0 : ¬ (c : Int) = 41) (hst : st.length <= 200) :
   Calls Tryz.prog 42 #[.string (sk (41 :: st)), .int .u8 (c : Int)] w fun e w' => folRes (fol 41 st c) e ∧ w' = w := by
 have hsz := sk_size (41 :: st)
 have hsz2 := sk_size st
 have hix := sk_top 41 st (by omega)
 have hrs := sk_rest 41 st
 simp only [List.length_cons] at hsz
 have b41 : ((c : Int) == 41) = false := by rw [beq_eq_false_iff_ne]; omega
 go_enter Tryz.func42, Tryz.ntmps42
 go_wp2
 go_ret2
 exact ⟨folRes_none (by rw [fol_41', if_neg (by omega)]) _ rfl, rfl⟩
theorem f93_93 (st : List Nat) (w : World) (hst : st.length <= 200) :
   Calls Tryz.prog 42 #[.string (sk (93 :: st)), .int .u8 93] w fun e w' => folRes (fol 93 st 93) e ∧ w' = w := by
 have hsz := sk_size (93 :: st)
 have hsz2 := sk_size st
 have hix := sk_top 93 st (by omega)
 have hrs := sk_rest 93 st
 simp only [List.length_cons] at hsz
 go_enter Tryz.func42, Tryz.ntmps42
 go_wp2
 go_ret2
 exact ⟨folRes_some (fol_93 _) rfl, rfl⟩
theorem f93_no (st : List Nat) (w : World) (c : Nat) (hc : c < 256) (x0 : ¬ (c : Int) = 93) (hst : st.length <= 200) :
   Calls Tryz.prog 42 #[.string (sk (93 :: st)), .int .u8 (c : Int)] w fun e w' => folRes (fol 93 st c) e ∧ w' = w := by
 have hsz := sk_size (93 :: st)
 have hsz2 := sk_size st
 have hix := sk_top 93 st (by omega)
 have hrs := sk_rest 93 st
 simp only [List.length_cons] at hsz
 have b93 : ((c : Int) == 93) = false := by rw [beq_eq_false_iff_ne]; omega
 go_enter Tryz.func42, Tryz.ntmps42
 go_wp2
 go_ret2
 exact ⟨folRes_none (by rw [fol_93', if_neg (by omega)]) _ rfl, rfl⟩
theorem follows_any (top : Nat) (st : List Nat) (c : Nat) (w : World) (ht : okTop top) (hc : c < 256) (hst : st.length <= 200) :
   Calls Tryz.prog 42 #[.string (sk (top :: st)), .int .u8 (c : Int)] w fun e w' => folRes (fol top st c) e ∧ w' = w := by
 rcases ht with rfl | rfl | rfl | rfl | rfl | rfl
 · by_cases h1 : c = 84
   · subst h1; exact f102_84 st w hst
   by_cases h2 : c = 33
   · subst h2; exact f102_33 st w hst
   by_cases h3 : c = 40
   · subst h3; exact f102_40 st w hst
   by_cases h4 : c = 69
   · subst h4; exact f102_69 st w hst
   by_cases h5 : c = 65
   · subst h5; exact f102_65 st w hst
   by_cases h6 : 97 <= (c : Int)
   · by_cases h7 : (c : Int) <= 122
     · exact f102_let st w c hc h6 h7 hst
     · exact f102_hi st w c hc (by omega) (by omega) (by omega) (by omega) (by omega) h6 h7 hst
   · exact f102_lo st w c hc (by omega) (by omega) (by omega) (by omega) (by omega) h6 hst
 · by_cases h1 : c = 38
   · subst h1; exact f111_38 st w hst
   by_cases h2 : c = 43
   · subst h2; exact f111_43 st w hst
   exact f111_no st w c hc (by omega) (by omega) hst
 · by_cases h1 : c = 85
   · subst h1; exact f117_85 st w hst
   by_cases h2 : c = 82
   · subst h2; exact f117_82 st w hst
   exact f117_no st w c hc (by omega) (by omega) hst
 · by_cases h1 : c = 91
   · subst h1; exact f119_91 st w hst
   by_cases h2 : c = 88
   · subst h2; exact f119_88 st w hst
   exact f119_no st w c hc (by omega) (by omega) hst
 · by_cases h1 : c = 41
   · subst h1; exact f41_41 st w hst
   exact f41_no st w c hc (by omega) hst
 · by_cases h1 : c = 93
   · subst h1; exact f93_93 st w hst
   exact f93_no st w c hc (by omega) hst
def okSt (st : List Nat) : Prop := ∀ x ∈ st, okTop x
theorem okSt_start : okSt [102] := by
 intro x hx
 simp at hx
 exact .inl hx
theorem okSt_fol {top : Nat} {st st' : List Nat} {c : Nat} (h : okSt (top :: st)) (hf : fol top st c = some st') : okSt st' ∧ st'.length <= (top :: st).length + 3 := by
 have hs : okSt st := fun x hx => h x (List.mem_cons_of_mem _ hx)
 have key : ∀ l : List Nat, (∀ x ∈ l, okTop x) -> l.length <= 4 -> st' = l ++ st -> okSt st' ∧ st'.length <= (top :: st).length + 3 := by
   intro l hl hn e
   subst e
   refine ⟨fun x hx => ?_, by simp; omega⟩
   rcases List.mem_append.1 hx with h1 | h1
   · exact hl x h1
   · exact hs x h1
 unfold fol at hf
 split at hf
 · split at hf
   · injection hf with e; exact key [] (by simp) (by simp) e.symm
   · split at hf
     · injection hf with e; exact key [102] (by intro x hx; simp at hx; subst hx; simp [okTop]) (by simp) e.symm
     · split at hf
       · injection hf with e; exact key [102, 111, 102, 41] (by intro x hx; simp at hx; rcases hx with rfl | rfl | rfl | rfl <;> simp [okTop]) (by simp) e.symm
       · split at hf
         · injection hf with e; exact key [119] (by intro x hx; simp at hx; subst hx; simp [okTop]) (by simp) e.symm
         · simp at hf
 · split at hf
   · split at hf
     · injection hf with e; exact key [] (by simp) (by simp) e.symm
     · simp at hf
   · split at hf
     · split at hf
       · injection hf with e; exact key [] (by simp) (by simp) e.symm
       · simp at hf
     · split at hf
       · split at hf
         · injection hf with e; exact key [102, 117, 102, 93] (by intro x hx; simp at hx; rcases hx with rfl | rfl | rfl | rfl <;> simp [okTop]) (by simp) e.symm
         · split at hf
           · injection hf with e; exact key [102] (by intro x hx; simp at hx; subst hx; simp [okTop]) (by simp) e.symm
           · simp at hf
       · split at hf
         · injection hf with e; exact key [] (by simp) (by simp) e.symm
         · simp at hf
theorem step_yes {s : ByteArray} {k top : Nat} {st st' : List Nat} {R : List Nat × List UInt8} (hk : k < s.size) (hf : fol top st s[k].toNat = some st') (h : auto (top :: st) (tl s k) = R) : auto st' (tl s (k + 1)) = R := by
 rw [tl_cons s k hk, auto_yes hf] at h
 exact h
theorem step_no {s : ByteArray} {k top : Nat} {st : List Nat} {R : List Nat × List UInt8} (hk : k < s.size) (hf : fol top st s[k].toNat = none) (h : auto (top :: st) (tl s k) = R) : R = (top :: st, tl s k) := by
 rw [<- h, tl_cons s k hk, auto_no hf]
theorem step_empty {s : ByteArray} {k : Nat} {R : List Nat × List UInt8} (h : auto [] (tl s k) = R) : R = ([], tl s k) := by
 rw [<- h, auto_nil]
theorem step_end {s : ByteArray} {k : Nat} {st : List Nat} {R : List Nat × List UInt8} (hk : s.size <= k) (h : auto st (tl s k) = R) : R = (st, []) := by
 rw [<- h, tl_nil s k hk, auto_end]
def placeOf (s : ByteArray) : Int := if (auto [102] (tl s 0)).1 = [] ∧ (auto [102] (tl s 0)).2 = [] then -1 else ((s.size - (auto [102] (tl s 0)).2.length : Nat) : Int)
theorem placeOf_rest {s : ByteArray} {k : Nat} {st : List Nat} (hk : k < s.size) (h : auto [102] (tl s 0) = (st, tl s k)) : placeOf s = (k : Int) := by
 unfold placeOf
 rw [h]
 have hl := tl_length s k
 rw [if_neg (by rintro ⟨_, h2⟩; simp only at h2; rw [h2] at hl; simp at hl; omega)]
 simp only [hl]
 omega
theorem placeOf_short {s : ByteArray} {st : List Nat} (hs : st ≠ []) (h : auto [102] (tl s 0) = (st, [])) : placeOf s = (s.size : Int) := by
 unfold placeOf
 rw [h, if_neg (by rintro ⟨h1, _⟩; exact hs h1)]
 simp
theorem placeOf_good {s : ByteArray} (h : auto [102] (tl s 0) = ([], [])) : placeOf s = -1 := by
 unfold placeOf
 rw [h, if_pos ⟨rfl, rfl⟩]
theorem place_any (s : ByteArray) (w : World) (hs : s.size <= 60) :
   Calls Tryz.prog 23 #[.string s] w fun e w' => e = .returned (.int .i64 (placeOf s)) ∧ w' = w := by
 go_enter Tryz.func23, Tryz.ntmps23
 go_wp2
 go_loop [3, 4] (fun v q => ∃ (st : List Nat) (k : Nat), k <= s.size ∧ v = .string (sk st) ∧ q = .int .i64 k ∧ st.length <= 1 + 3 * k ∧ Hid (okSt st) ∧ Hid (auto st (tl s k) = auto [102] (tl s 0))) (fun _ q => s.size - (intOf q).toNat)
 case atStart => exact ⟨[102], 0, by omega, rfl, rfl, by simp, okSt_start, rfl⟩
 case round =>
   obtain ⟨st, k, hk, rfl, rfl, hlen, HO, HA⟩ := hrel
   have hem := sk_empty st
   by_cases hlt : k < s.size
   · cases st with
     | nil =>
       simp only [List.isEmpty_nil] at hem
       go_wp2_with fail
       go_ret
       exact ⟨ret_int (placeOf_rest hlt (step_empty HA.out)).symm, rfl⟩
     | cons top st =>
       simp only [List.isEmpty_cons] at hem
       go_wp2_with fail
       refine (follows_any top st _ _ (HO.out top (by simp)) (UInt8.toNat_lt _) (by simp at hlen; omega)).mono ?_
       rintro e w1 ⟨hf, rfl⟩
       cases hfo : fol top st s[k].toNat with
       | none =>
         rw [hfo] at hf
         obtain ⟨τ, rfl⟩ := hf
         have HF : Hid (fol top st s[k].toNat = none) := hfo
         clear hfo
         go_wp2_with fail
         go_ret
         exact ⟨ret_int (placeOf_rest hlt (step_no hlt HF.out HA.out)).symm, rfl⟩
       | some st' =>
         rw [hfo] at hf
         have hf' : e = .returned (.tuple #[.string (sk st'), .bool true]) := hf
         subst hf'
         have HF : Hid (fol top st s[k].toNat = some st') := hfo
         clear hfo hf
         go_wp2_with fail
         go_round
         case rel =>
           have h := okSt_fol HO.out HF.out
           exact ⟨st', k + 1, by omega, rfl, by go_num, by simp at hlen h; omega, h.1, step_yes hlt HF.out HA.out⟩
         case measure => simp [intOf]; omega
   · cases st with
     | nil =>
       simp only [List.isEmpty_nil] at hem
       go_wp2_with fail
       go_ret
       exact ⟨ret_int (placeOf_good (step_end (by omega) HA.out)).symm, rfl⟩
     | cons top st =>
       simp only [List.isEmpty_cons] at hem
       go_wp2_with fail
       go_ret
       exact ⟨ret_int (placeOf_short (by simp) (step_end (by omega) HA.out)).symm, rfl⟩
theorem end_any (s : ByteArray) (p : Nat) (w : World) (hs : s.size <= 60) (hp : p <= s.size) :
   Calls Tryz.prog 43 #[.string s, .int .i64 p] w fun e w' => e = .returned (.int .i64 ((s.size - (auto [102] (tl s p)).2.length : Nat) : Int)) ∧ w' = w := by
 go_enter Tryz.func43, Tryz.ntmps43
 go_wp2
 go_loop [1, 5] (fun q v => ∃ (st : List Nat) (k : Nat), k <= s.size ∧ v = .string (sk st) ∧ q = .int .i64 k ∧ st.length <= 1 + 3 * k ∧ Hid (okSt st) ∧ Hid (auto st (tl s k) = auto [102] (tl s p))) (fun q _ => s.size - (intOf q).toNat)
 case atStart => exact ⟨[102], p, hp, rfl, rfl, by simp, okSt_start, rfl⟩
 case round =>
   obtain ⟨st, k, hk, rfl, rfl, hlen, HO, HA⟩ := hrel
   have hem := sk_empty st
   by_cases hlt : k < s.size
   · cases st with
     | nil =>
       simp only [List.isEmpty_nil] at hem
       go_wp2_with fail
       go_ret
       exact ⟨ret_int (by rw [step_empty HA.out]; simp only [tl_length]; omega), rfl⟩
     | cons top st =>
       simp only [List.isEmpty_cons] at hem
       go_wp2_with fail
       refine (follows_any top st _ _ (HO.out top (by simp)) (UInt8.toNat_lt _) (by simp at hlen; omega)).mono ?_
       rintro e w1 ⟨hf, rfl⟩
       cases hfo : fol top st s[k].toNat with
       | none =>
         rw [hfo] at hf
         obtain ⟨τ, rfl⟩ := hf
         have HF : Hid (fol top st s[k].toNat = none) := hfo
         clear hfo
         go_wp2_with fail
         go_ret
         exact ⟨ret_int (by rw [step_no hlt HF.out HA.out]; simp only [tl_length]; omega), rfl⟩
       | some st' =>
         rw [hfo] at hf
         have hf' : e = .returned (.tuple #[.string (sk st'), .bool true]) := hf
         subst hf'
         have HF : Hid (fol top st s[k].toNat = some st') := hfo
         clear hfo hf
         go_wp2_with fail
         go_round
         case rel =>
           have h := okSt_fol HO.out HF.out
           exact ⟨st', k + 1, by omega, rfl, by go_num, by simp at hlen h; omega, h.1, step_yes hlt HF.out HA.out⟩
         case measure => simp [intOf]; omega
   · go_wp2_with fail
     go_ret
     exact ⟨ret_int (by rw [step_end (by omega) HA.out]; simp; omega), rfl⟩
theorem max_any (a b : Nat) (w : World) : Calls Tryz.prog 44 #[.int .i64 (a : Int), .int .i64 (b : Int)] w fun e w' => e = .returned (.int .i64 ((max a b : Nat) : Int)) ∧ w' = w := by
 by_cases h : (b : Int) < (a : Int)
 · go_enter Tryz.func44, Tryz.ntmps44
   go_wp2
   go_ret
   exact ⟨ret_int (by omega), rfl⟩
 · go_enter Tryz.func44, Tryz.ntmps44
   go_wp2
   go_ret
   exact ⟨ret_int (by omega), rfl⟩
end Go.Proofs.YtcfbfdjmcabnkabGreat
namespace Go.Proofs.YtcfbfdjmcabnkabGreat
open Go.RowKit Fw
open Go.Deep (BT)
set_option linter.unusedVariables false
theorem size_of {s : ByteArray} {l : List UInt8} (h : s.data.toList = l) : s.size = l.length := by
 rw [<- h]
 show s.data.size = _
 rw [Array.length_toList]
theorem at0 {s : ByteArray} {c : UInt8} {r : List UInt8} (h : s.data.toList = c :: r) (h0 : 0 < s.size) : s[0].toNat = c.toNat := by
 have e : s[0] = c := by
   have : s.data.toList[0]'(by simpa using h0) = c := by simp [h]
   exact this
 rw [e]
theorem at1 {s : ByteArray} {c d : UInt8} {r : List UInt8} (h : s.data.toList = c :: d :: r) (h0 : 1 < s.size) : s[1].toNat = d.toNat := by
 have e : s[1] = d := by
   have : s.data.toList[1]'(by simpa using h0) = d := by simp [h]
   exact this
 rw [e]
theorem ext_tail1 {s : ByteArray} {c : UInt8} {r : List UInt8} (h : s.data.toList = c :: r) : (s.extract 1 s.size).data.toList = r := by
 rw [Lib.extract_data, h, size_of h]
 simp
theorem ext_tail2 {s : ByteArray} {c d : UInt8} {r : List UInt8} (h : s.data.toList = c :: d :: r) : (s.extract 2 s.size).data.toList = r := by
 rw [Lib.extract_data, h, size_of h]
 simp
theorem ext_left {s : ByteArray} {p x y z : List UInt8} {c : UInt8} (h : s.data.toList = p ++ (x ++ c :: (y ++ z))) : (s.extract p.length (p.length + x.length)).data.toList = x := by
 rw [Lib.extract_data, h]
 simp
theorem ext_right {s : ByteArray} {p x y : List UInt8} {c d : UInt8} (h : s.data.toList = p ++ (x ++ c :: (y ++ [d]))) : (s.extract (p.length + x.length + 1) (s.size - 1)).data.toList = y := by
 rw [Lib.extract_data, h, size_of h]
 have e : p ++ (x ++ c :: (y ++ [d])) = (p ++ x ++ [c]) ++ (y ++ [d]) := by simp
 rw [e, List.drop_left' (by simp; omega)]
 simp only [List.length_append, List.length_cons, List.length_nil]
 rw [show p.length + x.length + (0 + 1) + (y.length + (0 + 1)) - 1 - (p.length + x.length + 1) = y.length from by omega]
 simp
theorem end_at {s : ByteArray} {p r : List UInt8} {t : Fm} (h : s.data.toList = p ++ (txt t ++ r)) (hg : good t) : s.size - (auto [102] (tl s p.length)).2.length = p.length + (txt t).length := by
 have e : tl s p.length = txt t ++ r := by
   unfold tl
   rw [h, List.drop_left]
 rw [e, auto_txt t hg, auto_nil, size_of h]
 simp
 omega
theorem end_at1 {s : ByteArray} {c : UInt8} {r : List UInt8} {t : Fm} (h : s.data.toList = c :: (txt t ++ r)) (hg : good t) : s.size - (auto [102] (tl s 1)).2.length = 1 + (txt t).length := by
 have := end_at (p := [c]) h hg
 rw [show [c].length = 1 from rfl] at this
 exact this
theorem end_at2 {s : ByteArray} {c d : UInt8} {r : List UInt8} {t : Fm} (h : s.data.toList = c :: d :: (txt t ++ r)) (hg : good t) : s.size - (auto [102] (tl s 2)).2.length = 2 + (txt t).length := by
 have := end_at (p := [c, d]) h hg
 rw [show [c, d].length = 2 from rfl] at this
 exact this
theorem ext_left1 {s : ByteArray} {x y z : List UInt8} {c d : UInt8} (h : s.data.toList = d :: (x ++ c :: (y ++ z))) : (s.extract 1 (1 + x.length)).data.toList = x := by
 have := ext_left (p := [d]) h
 rw [show [d].length = 1 from rfl] at this
 exact this
theorem ext_left2 {s : ByteArray} {x y z : List UInt8} {c d e : UInt8} (h : s.data.toList = d :: e :: (x ++ c :: (y ++ z))) : (s.extract 2 (2 + x.length)).data.toList = x := by
 have := ext_left (p := [d, e]) h
 rw [show [d, e].length = 2 from rfl] at this
 exact this
theorem ext_right1 {s : ByteArray} {x y : List UInt8} {c d e : UInt8} (h : s.data.toList = e :: (x ++ c :: (y ++ [d]))) : (s.extract (1 + x.length + 1) (s.size - 1)).data.toList = y := by
 have := ext_right (p := [e]) h
 rw [show [e].length = 1 from rfl] at this
 exact this
theorem ext_right2 {s : ByteArray} {x y : List UInt8} {c d e f : UInt8} (h : s.data.toList = e :: f :: (x ++ c :: (y ++ [d]))) : (s.extract (2 + x.length + 1) (s.size - 1)).data.toList = y := by
 have := ext_right (p := [e, f]) h
 rw [show [e, f].length = 2 from rfl] at this
 exact this
theorem i64_add1 (m : Nat) (h : m <= 1000) : IntKind.i64.wrap ((m : Int) + 1) = ((m + 1 : Nat) : Int) := by
 rw [IntKind.wrap_i64]; omega
theorem i64_sub1 (m : Nat) (h0 : 0 < m) (h : m <= 1000) : IntKind.i64.wrap ((m : Int) - 1) = ((m - 1 : Nat) : Int) := by
 rw [IntKind.wrap_i64]; omega
theorem end_1 (s : ByteArray) (w : World) (hs : s.size <= 60) (hp : 1 <= s.size) :
   Calls Tryz.prog 43 #[.string s, .int .i64 1] w fun e w' => e = .returned (.int .i64 ((s.size - (auto [102] (tl s 1)).2.length : Nat) : Int)) ∧ w' = w := end_any s 1 w hs hp
theorem end_2 (s : ByteArray) (w : World) (hs : s.size <= 60) (hp : 2 <= s.size) :
   Calls Tryz.prog 43 #[.string s, .int .i64 2] w fun e w' => e = .returned (.int .i64 ((s.size - (auto [102] (tl s 2)).2.length : Nat) : Int)) ∧ w' = w := end_any s 2 w hs hp
def NestAt (t : Fm) : Prop := ∀ (s : ByteArray) (w : World), s.data.toList = txt t -> s.size <= 60 ->
 Calls Tryz.prog 24 #[.string s] w fun e w' => e = .returned (.int .i64 ((nst t : Nat) : Int)) ∧ ∃ n, w' = w.drewN n
theorem nest_atom (c : Nat) (hc : isAtom c = true) : NestAt (.node c 0 () .nil .nil) := by
 intro s w h hs
 rw [txt_atom hc] at h
 have hsz := size_of h
 have hp : 0 < s.size := by rw [hsz]; simp
 have h0 : s[0].toNat = c := by rw [at0 h hp, b8_nat (isAtom_lt hc)]
 simp only [isAtom, decide_eq_true_eq] at hc
 simp only [List.length_cons, List.length_nil] at hsz
 have b1 : ((c : Int) == 33) = false := by rw [beq_eq_false_iff_ne]; omega
 have b2 : ((c : Int) == 40) = false := by rw [beq_eq_false_iff_ne]; omega
 have b3 : ((c : Int) != 69) = true := by rw [bne_iff_ne]; omega
 have b4 : ((c : Int) != 65) = true := by rw [bne_iff_ne]; omega
 clear hc h hsz
 go_enter Tryz.func24, Tryz.ntmps24
 go_wp2_with fail
 go_ret
 exact ⟨rfl, 0, rfl⟩
theorem nest_not (l : Fm) (ih : NestAt l) : NestAt (.node 33 0 () l .nil) := by
 intro s w h hs
 rw [txt_one33] at h
 have hsz := size_of h
 simp only [List.length_cons] at hsz
 have hp : 1 <= s.size := by omega
 have h0' : s[0].toNat = 33 := at0 h hp
 have HX : Hid ((s.extract 1 s.size).data.toList = txt l) := ext_tail1 h
 have HZ : Hid ((s.extract 1 s.size).size <= 60) := by show _ <= _; rw [ByteArray.size_extract]; omega
 clear h hsz
 go_enter Tryz.func24, Tryz.ntmps24
 go_wp2_with fail
 refine (ih _ _ HX.out HZ.out).mono ?_
 rintro e w1 ⟨rfl, n, rfl⟩
 go_wp2_with fail
 go_ret
 exact ⟨ret_int (by simp [nst]), n, rfl⟩
theorem nst_le : ∀ (t : Fm), good t -> nst t <= (txt t).length := by
 intro t
 induction t with
 | nil => intro h; exact absurd h (by simp [good])
 | node sg wy u l r ihl ihr =>
   intro h
   rcases good_cases h with ⟨c, e, hc, ht⟩ | ⟨x, e, hx, ht⟩ | ⟨s, x, y, e, hs, hx, hy, ht⟩ | ⟨v, x, e, hv, hx, ht⟩ | ⟨s, v, x, y, e, hs, hv, hx, hy, ht⟩
   · rw [ht, e]; simp [nst]
   · rw [ht]
     injection e with _ e0 _ e1 e2
     subst e0 e1 e2
     have := ihl hx
     simp [nst]
     omega
   · rw [ht]
     injection e with _ e0 _ e1 e2
     subst e0 e1 e2
     have := ihl hx
     have := ihr hy
     simp [nst]
     omega
   · rw [ht]
     injection e with _ e0 _ e1 e2
     subst e0 e1 e2
     have := ihl hx
     simp only [nst, List.length_cons]
     split <;> omega
   · rw [ht]
     injection e with _ e0 _ e1 e2
     subst e0 e1 e2
     have := ihl hx
     have := ihr hy
     simp only [nst, List.length_cons, List.length_append]
     split <;> omega
theorem i64_1add (m : Nat) (h : m <= 1000) : IntKind.i64.wrap (1 + (m : Int)) = ((1 + m : Nat) : Int) := by
 rw [IntKind.wrap_i64]; omega
theorem nest_bin (sg : Nat) (l r : Fm) (hs : sg = 38 ∨ sg = 43) (gl : good l) (gr : good r) (ihl : NestAt l) (ihr : NestAt r) : NestAt (.node sg 0 () l r) := by
 intro s w h hz
 rw [txt_bin hs] at h
 have hsz := size_of h
 simp only [List.length_cons, List.length_append, List.length_nil] at hsz
 have hp : 0 < s.size := by omega
 have h0' : s[0].toNat = 40 := at0 h hp
 have hend := end_at1 h gl
 have hxl := ext_left1 h
 have hxr := ext_right1 h
 obtain ⟨m, hm⟩ : ∃ m, m = 1 + (txt l).length := ⟨_, rfl⟩
 rw [<- hm] at hend hxl hxr
 have hb1 : 1 <= m := by omega
 have hb2 : m + 2 <= s.size := by omega
 obtain ⟨A, hA⟩ : ∃ A, A = s.extract 1 m := ⟨_, rfl⟩
 obtain ⟨B, hB⟩ : ∃ B, B = s.extract (m + 1) (s.size - 1) := ⟨_, rfl⟩
 rw [<- hA] at hxl
 rw [<- hB] at hxr
 have HL : Hid (A.data.toList = txt l) := hxl
 have HR : Hid (B.data.toList = txt r) := hxr
 have HLz : Hid (A.size <= 60) := by show _ <= _; rw [size_of hxl]; omega
 have HRz : Hid (B.size <= 60) := by show _ <= _; rw [size_of hxr]; omega
 have hA' := hA.symm
 have hB' := hB.symm
 have w1 := i64_add1 m (by omega)
 have w2 := i64_sub1 s.size (by omega) (by omega)
 have k1 : (1 : Int) <= (m : Int) := by omega
 have k2 : (m : Int) <= (s.size : Int) := by omega
 have k3 : ((m + 1 : Nat) : Int) <= ((s.size - 1 : Nat) : Int) := by omega
 have k4 : ((s.size - 1 : Nat) : Int) <= (s.size : Int) := by omega
 have HIL : Hid (NestAt l) := ihl
 have HIR : Hid (NestAt r) := ihr
 clear h hsz hm hxl hxr hA hB ihl ihr
 go_enter Tryz.func24, Tryz.ntmps24
 go_wp2_with fail
 refine (end_1 s _ hz (by omega)).mono ?_
 rintro e w1 ⟨rfl, rfl⟩
 rw [hend]
 clear hend
 go_wp2_with fail
 go_quiet (first
   | (go_at_call_of 24 A; exact Calls.quiet_of (HIL.out A _ HL.out HLz.out))
   | (go_at_call_of 24 B; exact Calls.quiet_of (HIR.out B _ HR.out HRz.out))
   | (go_at_call 44; exact Calls.quiet_of_same (max_any _ _ _)))
 go_wp2
 go_ret
 exact ⟨ret_int (by simp [nst]), _, rfl⟩
theorem nest_x69 (l : Fm) (gl : good l) (ih : NestAt l) : NestAt (.node 88 69 () l .nil) := by
 intro s w h hs
 rw [txt_one88] at h
 have hsz := size_of h
 simp only [List.length_cons] at hsz
 have hp : 0 < s.size := by omega
 have hp1 : 1 < s.size := by omega
 have hp2 : 2 <= s.size := by omega
 have h0' : s[0].toNat = 69 := at0 h hp
 have h1' : s[1].toNat = 88 := at1 h hp1
 have hn := nst_le l gl
 have hn2 : nst l <= 60 := by omega
 have HX : Hid ((s.extract 2 s.size).data.toList = txt l) := ext_tail2 h
 have HZ : Hid ((s.extract 2 s.size).size <= 60) := by show _ <= _; rw [ByteArray.size_extract]; omega
 clear h hsz hn
 go_enter Tryz.func24, Tryz.ntmps24
 go_wp2_with fail
 refine (ih _ _ HX.out HZ.out).mono ?_
 rintro e w1 ⟨rfl, n, rfl⟩
 go_wp2_with fail
 go_ret
 exact ⟨ret_int (by simp [nst]), n, rfl⟩
theorem nest_way69 (sg : Nat) (l r : Fm) (hs : sg = 85 ∨ sg = 82) (gl : good l) (gr : good r) (ihl : NestAt l) (ihr : NestAt r) : NestAt (.node sg 69 () l r) := by
 intro s w h hz
 rw [txt_way hs] at h
 have hsz := size_of h
 simp only [List.length_cons, List.length_append, List.length_nil] at hsz
 have hp : 0 < s.size := by omega
 have h0' : s[0].toNat = 69 := at0 h hp
 have hp1 : 1 < s.size := by omega
 have h1' : s[1].toNat = 91 := at1 h hp1
 have hnl := nst_le l gl
 have hnr := nst_le r gr
 have hend := end_at2 h gl
 have hxl := ext_left2 h
 have hxr := ext_right2 h
 obtain ⟨m, hm⟩ : ∃ m, m = 2 + (txt l).length := ⟨_, rfl⟩
 rw [<- hm] at hend hxl hxr
 have hb1 : 2 <= m := by omega
 have hb2 : m + 2 <= s.size := by omega
 obtain ⟨A, hA⟩ : ∃ A, A = s.extract 2 m := ⟨_, rfl⟩
 obtain ⟨B, hB⟩ : ∃ B, B = s.extract (m + 1) (s.size - 1) := ⟨_, rfl⟩
 rw [<- hA] at hxl
 rw [<- hB] at hxr
 have HL : Hid (A.data.toList = txt l) := hxl
 have HR : Hid (B.data.toList = txt r) := hxr
 have HLz : Hid (A.size <= 60) := by show _ <= _; rw [size_of hxl]; omega
 have HRz : Hid (B.size <= 60) := by show _ <= _; rw [size_of hxr]; omega
 have hA' := hA.symm
 have hB' := hB.symm
 have w1 := i64_add1 m (by omega)
 have w2 := i64_sub1 s.size (by omega) (by omega)
 have hmx : max (nst l) (nst r) <= 60 := by omega
 have w3 := i64_1add (max (nst l) (nst r)) (by omega)
 have k1 : (2 : Int) <= (m : Int) := by omega
 have k2 : (m : Int) <= (s.size : Int) := by omega
 have k3 : ((m + 1 : Nat) : Int) <= ((s.size - 1 : Nat) : Int) := by omega
 have k4 : ((s.size - 1 : Nat) : Int) <= (s.size : Int) := by omega
 have HIL : Hid (NestAt l) := ihl
 have HIR : Hid (NestAt r) := ihr
 clear h hsz hm hxl hxr hA hB ihl ihr
 go_enter Tryz.func24, Tryz.ntmps24
 go_wp2_with fail
 refine (end_2 s _ hz (by omega)).mono ?_
 rintro e w1 ⟨rfl, rfl⟩
 rw [hend]
 clear hend
 go_wp2_with fail
 go_quiet (first
   | (go_at_call_of 24 A; exact Calls.quiet_of (HIL.out A _ HL.out HLz.out))
   | (go_at_call_of 24 B; exact Calls.quiet_of (HIR.out B _ HR.out HRz.out))
   | (go_at_call 44; exact Calls.quiet_of_same (max_any _ _ _)))
 go_wp2
 go_ret
 exact ⟨ret_int (by simp [nst]), _, rfl⟩
theorem nest_x65 (l : Fm) (gl : good l) (ih : NestAt l) : NestAt (.node 88 65 () l .nil) := by
 intro s w h hs
 rw [txt_one88] at h
 have hsz := size_of h
 simp only [List.length_cons] at hsz
 have hp : 0 < s.size := by omega
 have hp1 : 1 < s.size := by omega
 have hp2 : 2 <= s.size := by omega
 have h0' : s[0].toNat = 65 := at0 h hp
 have h1' : s[1].toNat = 88 := at1 h hp1
 have hn := nst_le l gl
 have hn2 : nst l <= 60 := by omega
 have HX : Hid ((s.extract 2 s.size).data.toList = txt l) := ext_tail2 h
 have HZ : Hid ((s.extract 2 s.size).size <= 60) := by show _ <= _; rw [ByteArray.size_extract]; omega
 clear h hsz hn
 go_enter Tryz.func24, Tryz.ntmps24
 go_wp2_with fail
 refine (ih _ _ HX.out HZ.out).mono ?_
 rintro e w1 ⟨rfl, n, rfl⟩
 go_wp2_with fail
 go_ret
 exact ⟨ret_int (by simp [nst]), n, rfl⟩
theorem nest_way65 (sg : Nat) (l r : Fm) (hs : sg = 85 ∨ sg = 82) (gl : good l) (gr : good r) (ihl : NestAt l) (ihr : NestAt r) : NestAt (.node sg 65 () l r) := by
 intro s w h hz
 rw [txt_way hs] at h
 have hsz := size_of h
 simp only [List.length_cons, List.length_append, List.length_nil] at hsz
 have hp : 0 < s.size := by omega
 have h0' : s[0].toNat = 65 := at0 h hp
 have hp1 : 1 < s.size := by omega
 have h1' : s[1].toNat = 91 := at1 h hp1
 have hnl := nst_le l gl
 have hnr := nst_le r gr
 have hend := end_at2 h gl
 have hxl := ext_left2 h
 have hxr := ext_right2 h
 obtain ⟨m, hm⟩ : ∃ m, m = 2 + (txt l).length := ⟨_, rfl⟩
 rw [<- hm] at hend hxl hxr
 have hb1 : 2 <= m := by omega
 have hb2 : m + 2 <= s.size := by omega
 obtain ⟨A, hA⟩ : ∃ A, A = s.extract 2 m := ⟨_, rfl⟩
 obtain ⟨B, hB⟩ : ∃ B, B = s.extract (m + 1) (s.size - 1) := ⟨_, rfl⟩
 rw [<- hA] at hxl
 rw [<- hB] at hxr
 have HL : Hid (A.data.toList = txt l) := hxl
 have HR : Hid (B.data.toList = txt r) := hxr
 have HLz : Hid (A.size <= 60) := by show _ <= _; rw [size_of hxl]; omega
 have HRz : Hid (B.size <= 60) := by show _ <= _; rw [size_of hxr]; omega
 have hA' := hA.symm
 have hB' := hB.symm
 have w1 := i64_add1 m (by omega)
 have w2 := i64_sub1 s.size (by omega) (by omega)
 have hmx : max (nst l) (nst r) <= 60 := by omega
 have w3 := i64_1add (max (nst l) (nst r)) (by omega)
 have k1 : (2 : Int) <= (m : Int) := by omega
 have k2 : (m : Int) <= (s.size : Int) := by omega
 have k3 : ((m + 1 : Nat) : Int) <= ((s.size - 1 : Nat) : Int) := by omega
 have k4 : ((s.size - 1 : Nat) : Int) <= (s.size : Int) := by omega
 have HIL : Hid (NestAt l) := ihl
 have HIR : Hid (NestAt r) := ihr
 clear h hsz hm hxl hxr hA hB ihl ihr
 go_enter Tryz.func24, Tryz.ntmps24
 go_wp2_with fail
 refine (end_2 s _ hz (by omega)).mono ?_
 rintro e w1 ⟨rfl, rfl⟩
 rw [hend]
 clear hend
 go_wp2_with fail
 go_quiet (first
   | (go_at_call_of 24 A; exact Calls.quiet_of (HIL.out A _ HL.out HLz.out))
   | (go_at_call_of 24 B; exact Calls.quiet_of (HIR.out B _ HR.out HRz.out))
   | (go_at_call 44; exact Calls.quiet_of_same (max_any _ _ _)))
 go_wp2
 go_ret
 exact ⟨ret_int (by simp [nst]), _, rfl⟩
theorem nest_any : ∀ (t : Fm), good t -> NestAt t := by
 intro t
 induction t with
 | nil => intro h; exact absurd h (by simp [good])
 | node sg wy u l r ihl ihr =>
   intro h
   rcases good_cases h with ⟨c, e, hc, ht⟩ | ⟨x, e, hx, ht⟩ | ⟨s, x, y, e, hs, hx, hy, ht⟩ | ⟨v, x, e, hv, hx, ht⟩ | ⟨s, v, x, y, e, hs, hv, hx, hy, ht⟩
   · rw [e]; exact nest_atom c hc
   · injection e with e3 e0 _ e1 e2
     subst e3 e0 e1 e2
     exact nest_not _ (ihl hx)
   · injection e with e3 e0 _ e1 e2
     subst e3 e0 e1 e2
     exact nest_bin _ _ _ hs hx hy (ihl hx) (ihr hy)
   · injection e with e3 e0 _ e1 e2
     subst e3 e0 e1 e2
     rcases hv with rfl | rfl
     · exact nest_x69 _ hx (ihl hx)
     · exact nest_x65 _ hx (ihl hx)
   · injection e with e3 e0 _ e1 e2
     subst e3 e0 e1 e2
     rcases hv with rfl | rfl
     · exact nest_way69 _ _ _ hs hx hy (ihl hx) (ihr hy)
     · exact nest_way65 _ _ _ hs hx hy (ihl hx) (ihr hy)
def frm (s : ByteArray) : Nat × Nat :=
 if (pt (s.size + 1) (tl s 0)).1 = true ∧ (pt (s.size + 1) (tl s 0)).2.1 = [] then (if 3 < nst (pt (s.size + 1) (tl s 0)).2.2 then (6, 0) else (0, 0))
 else (5, s.size - (pt (s.size + 1) (tl s 0)).2.1.length)
theorem tl0 (s : ByteArray) : tl s 0 = s.data.toList := by simp [tl]
theorem place_frm (s : ByteArray) : ((pt (s.size + 1) (tl s 0)).1 = true ∧ (pt (s.size + 1) (tl s 0)).2.1 = [] ∧ placeOf s = -1) ∨
   (¬ ((pt (s.size + 1) (tl s 0)).1 = true ∧ (pt (s.size + 1) (tl s 0)).2.1 = []) ∧ placeOf s = ((s.size - (pt (s.size + 1) (tl s 0)).2.1.length : Nat) : Int)) := by
 have hl : (tl s 0).length = s.size := by rw [tl_length]; omega
 have := auto_pt (tl s 0)
 rw [hl] at this
 unfold placeOf
 rcases this with ⟨h1, h2⟩ | ⟨h1, st, h2, h3⟩
 · rw [h2]
   by_cases e : (pt (s.size + 1) (tl s 0)).2.1 = []
   · exact .inl ⟨h1, e, by simp [e]⟩
   · exact .inr ⟨fun h => e h.2, by simp [e]⟩
 · rw [h3]
   exact .inr ⟨(by rw [h1]; simp), by simp [h2]⟩
theorem refForm_long (s : ByteArray) (w : World) (hs : ¬ s.size <= 30) :
   Calls Tryz.prog 11 #[.string s] w fun e w' => e = .returned (.tuple #[.int .i64 1, .int .i64 0]) ∧ w' = w := by
 have h : (30 : Int) < (s.size : Int) := by omega
 go_enter Tryz.func11, Tryz.ntmps11
 go_wp2_with fail
 go_ret2
 exact ⟨rfl, rfl⟩
theorem refForm_any (s : ByteArray) (w : World) (hs : s.size <= 30) :
   Calls Tryz.prog 11 #[.string s] w fun e w' => e = .returned (.tuple #[.int .i64 ((frm s).1 : Nat), .int .i64 ((frm s).2 : Nat)]) ∧ ∃ n, w' = w.drewN n := by
 rcases place_frm s with ⟨h1, h2, hp⟩ | ⟨h1, hp⟩
 · have hg := pt_sound (s.size + 1) (tl s 0) h1
   rw [h2, List.append_nil, tl0] at hg
   have HF : Hid (frm s = if 3 < nst (pt (s.size + 1) (tl s 0)).2.2 then (6, 0) else (0, 0)) := by
     show _ = _
     unfold frm
     rw [if_pos ⟨h1, h2⟩]
   rw [<- tl0] at hg
   obtain ⟨t, ht⟩ : ∃ t, t = (pt (s.size + 1) (tl s 0)).2.2 := ⟨_, rfl⟩
   rw [<- ht] at hg HF
   have HG : Hid (s.data.toList = txt t ∧ good t) := by rw [<- tl0]; exact hg
   clear hg ht h1 h2
   go_enter Tryz.func11, Tryz.ntmps11
   go_wp2_with fail
   refine (place_any s _ (by omega)).mono ?_
   rintro e w1 ⟨rfl, rfl⟩
   rw [hp]
   clear hp
   go_wp2_with fail
   refine (nest_any t HG.out.2 s _ HG.out.1 (by omega)).mono ?_
   rintro e w2 ⟨rfl, n, rfl⟩
   by_cases h3 : (3 : Int) < (nst t : Int)
   · go_wp2_with fail
     go_ret2
     exact ⟨by rw [HF.out, if_pos (by omega)]; rfl, n, rfl⟩
   · go_wp2_with fail
     go_ret2
     exact ⟨by rw [HF.out, if_neg (by omega)]; rfl, n, rfl⟩
 · have HF : Hid (frm s = (5, s.size - (pt (s.size + 1) (tl s 0)).2.1.length)) := by
     show _ = _
     unfold frm
     rw [if_neg h1]
   clear h1
   go_enter Tryz.func11, Tryz.ntmps11
   go_wp2_with fail
   refine (place_any s _ (by omega)).mono ?_
   rintro e w1 ⟨rfl, rfl⟩
   rw [hp]
   clear hp
   go_wp2_with fail
   go_ret2
   exact ⟨by rw [HF.out]; rfl, 0, rfl⟩
end Go.Proofs.YtcfbfdjmcabnkabGreat
