import Derived.Laws.IdiomStrings
import Derived.Deep.RegionWith
import Derived.Deep.RegionHeld3
import Derived.BigRegion
import Derived.Test.YtcfbfdjmcabnkabGreatG4
set_option maxRecDepth 100000
set_option maxHeartbeats 2000000
namespace Go.Proofs.YtcfbfdjmcabnkabGreat
open Go.RowKit Fw
open Go.Deep (BT)
set_option linter.unusedVariables false
def bs (l : List UInt8) : ByteArray := ⟨l.toArray⟩
def opp (c : Nat) : Nat := if c = 38 then 43 else if c = 43 then 38 else if c = 85 then 82 else if c = 82 then 85 else if c = 69 then 65 else if c = 65 then 69 else c
def tn (neg : Bool) (c : Nat) : Nat := if neg = true then opp c else c
def isSg (c : Nat) : Prop := c = 38 ∨ c = 43 ∨ c = 85 ∨ c = 82 ∨ c = 69 ∨ c = 65
def push : Fm -> Bool -> List UInt8
 | .nil, _ => []
 | .node sg wy _ l r, neg =>
   if sg = 33 then push l (!neg)
   else if sg = 38 ∨ sg = 43 then 40 :: (push l neg ++ b8 (tn neg sg) :: (push r neg ++ [41]))
   else if sg = 88 then b8 (tn neg wy) :: 88 :: push l neg
   else if sg = 85 ∨ sg = 82 then b8 (tn neg wy) :: 91 :: (push l neg ++ b8 (tn neg sg) :: (push r neg ++ [93]))
   else if neg = true then [33, b8 sg] else [b8 sg]
theorem enc128 : ∀ c : Fin 128, Utf8.encode ((c.val : Nat) : Int) = bs [b8 c.val] := by decide +kernel
theorem enc_of (c : Nat) (h : c < 128) : Utf8.encode (c : Int) = bs [b8 c] := enc128 ⟨c, h⟩
theorem ret_str {a b : ByteArray} (h : a = b) : Ending.returned (.string a) = .returned (.string b) := by rw [h]
theorem opposite_any (c : Nat) (h : isSg c ∨ c = 0) (w : World) : Calls Tryz.prog 71 #[.int .u8 (c : Int)] w fun e w' => e = .returned (.int .u8 ((opp c : Nat) : Int)) ∧ w' = w := by
 rcases h with (rfl | rfl | rfl | rfl | rfl | rfl) | rfl
 · go_enter Tryz.func71, Tryz.ntmps71
   go_wp2
   go_ret
   exact ⟨rfl, rfl⟩
 · go_enter Tryz.func71, Tryz.ntmps71
   go_wp2
   go_ret
   exact ⟨rfl, rfl⟩
 · go_enter Tryz.func71, Tryz.ntmps71
   go_wp2
   go_ret
   exact ⟨rfl, rfl⟩
 · go_enter Tryz.func71, Tryz.ntmps71
   go_wp2
   go_ret
   exact ⟨rfl, rfl⟩
 · go_enter Tryz.func71, Tryz.ntmps71
   go_wp2
   go_ret
   exact ⟨rfl, rfl⟩
 · go_enter Tryz.func71, Tryz.ntmps71
   go_wp2
   go_ret
   exact ⟨rfl, rfl⟩
 · go_enter Tryz.func71, Tryz.ntmps71
   go_wp2
   go_ret
   exact ⟨rfl, rfl⟩
theorem isSg_lt {c : Nat} (h : isSg c ∨ c = 0) : c < 128 := by
 rcases h with (h | h | h | h | h | h) | h <;> omega
theorem contrary_38 (w : World) : Calls Tryz.prog 73 #[.int .u8 38] w fun e w' => e = .returned (.string (bs [43])) ∧ w' = w := by
 go_enter Tryz.func73, Tryz.ntmps73
 go_wp2
 go_loop [3] (fun q => ∃ k : Nat, k <= 4 ∧ q = .int .i64 k) (fun q => 4 - (intOf q).toNat)
 case atStart => exact ⟨0, by omega, rfl⟩
 case round =>
   obtain ⟨k, hk, rfl⟩ := hrel
   obtain rfl | rfl | rfl | rfl | rfl := (by omega : k = 0 ∨ k = 1 ∨ k = 2 ∨ k = 3 ∨ k = 4)
   · go_wp2
     go_round
     case rel => exact ⟨1, by omega, rfl⟩
     case measure => simp [intOf]
   · go_wp2
     go_round
     case rel => exact ⟨2, by omega, rfl⟩
     case measure => simp [intOf]
   · go_wp2
     go_round
     case rel => exact ⟨3, by omega, rfl⟩
     case measure => simp [intOf]
   · go_wp2
     go_round
     case rel => exact ⟨4, by omega, rfl⟩
     case measure => simp [intOf]
   · go_wp2
     go_ret
     exact ⟨rfl, rfl⟩
theorem contrary_43 (w : World) : Calls Tryz.prog 73 #[.int .u8 43] w fun e w' => e = .returned (.string (bs [38])) ∧ w' = w := by
 go_enter Tryz.func73, Tryz.ntmps73
 go_wp2
 go_loop [3] (fun q => ∃ k : Nat, k <= 5 ∧ q = .int .i64 k) (fun q => 5 - (intOf q).toNat)
 case atStart => exact ⟨0, by omega, rfl⟩
 case round =>
   obtain ⟨k, hk, rfl⟩ := hrel
   obtain rfl | rfl | rfl | rfl | rfl | rfl := (by omega : k = 0 ∨ k = 1 ∨ k = 2 ∨ k = 3 ∨ k = 4 ∨ k = 5)
   · go_wp2
     go_round
     case rel => exact ⟨1, by omega, rfl⟩
     case measure => simp [intOf]
   · go_wp2
     go_round
     case rel => exact ⟨2, by omega, rfl⟩
     case measure => simp [intOf]
   · go_wp2
     go_round
     case rel => exact ⟨3, by omega, rfl⟩
     case measure => simp [intOf]
   · go_wp2
     go_round
     case rel => exact ⟨4, by omega, rfl⟩
     case measure => simp [intOf]
   · go_wp2
     go_round
     case rel => exact ⟨5, by omega, rfl⟩
     case measure => simp [intOf]
   · go_wp2
     go_ret
     exact ⟨rfl, rfl⟩
theorem contrary_85 (w : World) : Calls Tryz.prog 73 #[.int .u8 85] w fun e w' => e = .returned (.string (bs [82])) ∧ w' = w := by
 go_enter Tryz.func73, Tryz.ntmps73
 go_wp2
 go_loop [3] (fun q => ∃ k : Nat, k <= 2 ∧ q = .int .i64 k) (fun q => 2 - (intOf q).toNat)
 case atStart => exact ⟨0, by omega, rfl⟩
 case round =>
   obtain ⟨k, hk, rfl⟩ := hrel
   obtain rfl | rfl | rfl := (by omega : k = 0 ∨ k = 1 ∨ k = 2)
   · go_wp2
     go_round
     case rel => exact ⟨1, by omega, rfl⟩
     case measure => simp [intOf]
   · go_wp2
     go_round
     case rel => exact ⟨2, by omega, rfl⟩
     case measure => simp [intOf]
   · go_wp2
     go_ret
     exact ⟨rfl, rfl⟩
theorem contrary_82 (w : World) : Calls Tryz.prog 73 #[.int .u8 82] w fun e w' => e = .returned (.string (bs [85])) ∧ w' = w := by
 go_enter Tryz.func73, Tryz.ntmps73
 go_wp2
 go_loop [3] (fun q => ∃ k : Nat, k <= 3 ∧ q = .int .i64 k) (fun q => 3 - (intOf q).toNat)
 case atStart => exact ⟨0, by omega, rfl⟩
 case round =>
   obtain ⟨k, hk, rfl⟩ := hrel
   obtain rfl | rfl | rfl | rfl := (by omega : k = 0 ∨ k = 1 ∨ k = 2 ∨ k = 3)
   · go_wp2
     go_round
     case rel => exact ⟨1, by omega, rfl⟩
     case measure => simp [intOf]
   · go_wp2
     go_round
     case rel => exact ⟨2, by omega, rfl⟩
     case measure => simp [intOf]
   · go_wp2
     go_round
     case rel => exact ⟨3, by omega, rfl⟩
     case measure => simp [intOf]
   · go_wp2
     go_ret
     exact ⟨rfl, rfl⟩
theorem contrary_69 (w : World) : Calls Tryz.prog 73 #[.int .u8 69] w fun e w' => e = .returned (.string (bs [65])) ∧ w' = w := by
 go_enter Tryz.func73, Tryz.ntmps73
 go_wp2
 go_loop [3] (fun q => ∃ k : Nat, k <= 0 ∧ q = .int .i64 k) (fun q => 0 - (intOf q).toNat)
 case atStart => exact ⟨0, by omega, rfl⟩
 case round =>
   obtain ⟨k, hk, rfl⟩ := hrel
   obtain rfl := (by omega : k = 0)
   · go_wp2
     go_ret
     exact ⟨rfl, rfl⟩
theorem contrary_65 (w : World) : Calls Tryz.prog 73 #[.int .u8 65] w fun e w' => e = .returned (.string (bs [69])) ∧ w' = w := by
 go_enter Tryz.func73, Tryz.ntmps73
 go_wp2
 go_loop [3] (fun q => ∃ k : Nat, k <= 1 ∧ q = .int .i64 k) (fun q => 1 - (intOf q).toNat)
 case atStart => exact ⟨0, by omega, rfl⟩
 case round =>
   obtain ⟨k, hk, rfl⟩ := hrel
   obtain rfl | rfl := (by omega : k = 0 ∨ k = 1)
   · go_wp2
     go_round
     case rel => exact ⟨1, by omega, rfl⟩
     case measure => simp [intOf]
   · go_wp2
     go_ret
     exact ⟨rfl, rfl⟩
theorem convert_one (c : Nat) (hc : c < 256) (w : World) : (convert 122 9 (.slice (some ⟨w.heap.size, 0, none⟩) 1 1)).run Tryz.prog (w.alloc (.cells #[.int .u8 (c : Int)] 5)) = .ok (.string (bs [b8 c])) (w.alloc (.cells #[.int .u8 (c : Int)] 5)) := by
 refine run_convert_bytes_back (P := Tryz.prog) (w.alloc (.cells #[.int .u8 (c : Int)] 5)) 122 9 5 ⟨w.heap.size, 0, none⟩ 1 [b8 c] Tryz.underlying122 Tryz.underlying5 Tryz.underlying9 ?_
 intro j hj
 obtain rfl : j = 0 := by simp at hj; omega
 simp [Addr.add, b8_nat hc]
theorem turned_f (c : Nat) (hc : c < 256) (w : World) : Calls Tryz.prog 47 #[.int .u8 (c : Int), .bool false] w fun e w' => e = .returned (.string (bs [b8 c])) ∧ Below w.heap.size w w' := by
 have hcv := convert_one c hc w
 go_enter Tryz.func47, Tryz.ntmps47
 go_wp2_with fail
 go_ret
 exact ⟨rfl, (Below.refl _ _).alloc (Nat.le_refl _) _⟩
theorem contrary_any (c : Nat) (h : isSg c) (w : World) : Calls Tryz.prog 73 #[.int .u8 (c : Int)] w fun e w' => e = .returned (.string (bs [b8 (opp c)])) ∧ w' = w := by
 rcases h with rfl | rfl | rfl | rfl | rfl | rfl
 · exact contrary_38 w
 · exact contrary_43 w
 · exact contrary_85 w
 · exact contrary_82 w
 · exact contrary_69 w
 · exact contrary_65 w
theorem turned_any (c : Nat) (neg : Bool) (h : isSg c) (w : World) : Calls Tryz.prog 47 #[.int .u8 (c : Int), .bool neg] w fun e w' => e = .returned (.string (bs [b8 (tn neg c)])) ∧ Below w.heap.size w w' := by
 cases neg with
 | false => exact turned_f c (by have := isSg_lt (.inl h); omega) w
 | true =>
   go_enter Tryz.func47, Tryz.ntmps47
   go_wp2_with fail
   refine (contrary_any c h _).mono ?_
   rintro e w1 ⟨rfl, rfl⟩
   go_wp2_with fail
   go_ret
   exact ⟨rfl, Below.refl _ _⟩
theorem bs_size (l : List UInt8) : (bs l).size = l.length := by simp [bs, ByteArray.size]
theorem bs_list (l : List UInt8) : (bs l).data.toList = l := by simp [bs]
theorem bs_add (a b : List UInt8) : bs a ++ bs b = bs (a ++ b) := by
 apply bytes_ext
 rw [ByteArray.data_append, Array.toList_append, bs_list, bs_list, bs_list]
theorem push_not (l : Fm) (wy : Nat) (neg : Bool) : push (.node 33 wy () l .nil) neg = push l (!neg) := by simp [push]
theorem push_bin {sg : Nat} (h : sg = 38 ∨ sg = 43) (wy : Nat) (l r : Fm) (neg : Bool) : push (.node sg wy () l r) neg = 40 :: (push l neg ++ b8 (tn neg sg) :: (push r neg ++ [41])) := by
 rw [push, if_neg (by omega), if_pos h]
theorem push_x (wy : Nat) (l : Fm) (neg : Bool) : push (.node 88 wy () l .nil) neg = b8 (tn neg wy) :: 88 :: push l neg := by simp [push]
theorem push_way {sg : Nat} (h : sg = 85 ∨ sg = 82) (wy : Nat) (l r : Fm) (neg : Bool) : push (.node sg wy () l r) neg = b8 (tn neg wy) :: 91 :: (push l neg ++ b8 (tn neg sg) :: (push r neg ++ [93])) := by
 rw [push, if_neg (by omega), if_neg (by omega), if_neg (by omega), if_pos h]
theorem push_atom {c : Nat} (h : isAtom c = true) (neg : Bool) : push (.node c 0 () .nil .nil) neg = if neg = true then [33, b8 c] else [b8 c] := by
 simp only [isAtom, decide_eq_true_eq] at h
 rw [push, if_neg (by omega), if_neg (by omega), if_neg (by omega), if_neg (by omega)]
theorem push_len : ∀ (t : Fm), good t -> ∀ neg, (push t neg).length <= 2 * (txt t).length := by
 intro t
 induction t with
 | nil => intro h; exact absurd h (by simp [good])
 | node sg wy u l r ihl ihr =>
   intro h neg
   rcases good_cases h with ⟨c, e, hc, ht⟩ | ⟨x, e, hx, ht⟩ | ⟨s, x, y, e, hs, hx, hy, ht⟩ | ⟨v, x, e, hv, hx, ht⟩ | ⟨s, v, x, y, e, hs, hv, hx, hy, ht⟩
   · rw [ht, e, push_atom hc]; split <;> simp
   · rw [ht]
     injection e with e3 e0 _ e1 e2
     subst e3 e0 e1 e2
     have := ihl hx (!neg)
     rw [push_not]
     simp
     omega
   · rw [ht]
     injection e with e3 e0 _ e1 e2
     subst e3 e0 e1 e2
     have := ihl hx neg
     have := ihr hy neg
     rw [push_bin hs]
     simp
     omega
   · rw [ht]
     injection e with e3 e0 _ e1 e2
     subst e3 e0 e1 e2
     have := ihl hx neg
     rw [push_x]
     simp
     omega
   · rw [ht]
     injection e with e3 e0 _ e1 e2
     subst e3 e0 e1 e2
     have := ihl hx neg
     have := ihr hy neg
     rw [push_way hs]
     simp
     omega
theorem at_mid {s : ByteArray} {p x y : List UInt8} {c : UInt8} (h : s.data.toList = p ++ (x ++ c :: y)) (hl : p.length + x.length < s.size) : s[p.length + x.length].toNat = c.toNat := by
 have e : s[p.length + x.length] = c := by
   have : s.data.toList[p.length + x.length]'(by simpa using hl) = c := by
     simp only [h]
     rw [List.getElem_append_right (by omega)]
     simp
   exact this
 rw [e]
theorem at_mid1 {s : ByteArray} {x y : List UInt8} {c d : UInt8} (h : s.data.toList = d :: (x ++ c :: y)) (m : Nat) (hm : m = 1 + x.length) (hl : m < s.size) : s[m].toNat = c.toNat := by
 subst hm
 exact at_mid (p := [d]) h hl
theorem at_mid2 {s : ByteArray} {x y : List UInt8} {c d e : UInt8} (h : s.data.toList = d :: e :: (x ++ c :: y)) (m : Nat) (hm : m = 2 + x.length) (hl : m < s.size) : s[m].toNat = c.toNat := by
 subst hm
 exact at_mid (p := [d, e]) h hl
def PushAt (t : Fm) : Prop := ∀ (neg : Bool) (s : ByteArray) (w : World), s.data.toList = txt t -> s.size <= 60 ->
 Calls Tryz.prog 27 #[.string s, .bool neg] w fun e w' => e = .returned (.string (bs (push t neg))) ∧ Below w.heap.size w w'
theorem pushed_atom (c : Nat) (hc : isAtom c = true) : PushAt (.node c 0 () .nil .nil) := by
 intro neg s w h hs
 rw [txt_atom hc] at h
 have hsz := size_of h
 have hp : 0 < s.size := by rw [hsz]; simp
 have h0 : s[0].toNat = c := by rw [at0 h hp, b8_nat (isAtom_lt hc)]
 have HP : Hid (push (.node c 0 () .nil .nil) neg = if neg = true then [33, b8 c] else [b8 c]) := push_atom hc neg
 have HS : Hid (s.data.toList = [b8 c]) := h
 simp only [isAtom, decide_eq_true_eq] at hc
 have b1 : ((c : Int) == 33) = false := by rw [beq_eq_false_iff_ne]; omega
 have b2 : ((c : Int) == 40) = false := by rw [beq_eq_false_iff_ne]; omega
 have b3 : ((c : Int) != 69) = true := by rw [bne_iff_ne]; omega
 have b4 : ((c : Int) != 65) = true := by rw [bne_iff_ne]; omega
 clear hc h hsz
 cases neg with
 | true =>
   go_enter Tryz.func27, Tryz.ntmps27
   go_wp2_with fail
   go_ret
   refine ⟨ret_str ?_, Below.refl _ _⟩
   rw [HP.out]
   apply bytes_ext
   rw [ByteArray.data_append, Array.toList_append, HS.out, bs_list]
   rfl
 | false =>
   go_enter Tryz.func27, Tryz.ntmps27
   go_wp2_with fail
   go_ret
   refine ⟨ret_str ?_, Below.refl _ _⟩
   rw [HP.out]
   apply bytes_ext
   rw [HS.out, bs_list]
   rfl
theorem pushed_not (l : Fm) (ih : PushAt l) : PushAt (.node 33 0 () l .nil) := by
 intro neg s w h hs
 rw [txt_one33] at h
 have hsz := size_of h
 simp only [List.length_cons] at hsz
 have hp : 1 <= s.size := by omega
 have h0' : s[0].toNat = 33 := at0 h hp
 have HX : Hid ((s.extract 1 s.size).data.toList = txt l) := ext_tail1 h
 have HZ : Hid ((s.extract 1 s.size).size <= 60) := by show _ <= _; rw [ByteArray.size_extract]; omega
 rw [push_not]
 clear h hsz
 go_enter Tryz.func27, Tryz.ntmps27
 go_wp2_with fail
 refine (ih _ _ _ HX.out HZ.out).mono ?_
 rintro e w1 ⟨rfl, hb⟩
 go_wp2_with fail
 go_ret
 exact ⟨rfl, hb⟩
def Sum (a b c : ByteArray) : Prop := ∀ w : World, (Op.stringOp .add a b).run Tryz.prog w = .ok (.string c) w
theorem sum_of {a b c : ByteArray} (h : a.size + b.size <= 10000) (hc : a ++ b = c) : Sum a b c := by
 intro w
 rw [run_string_add_sum w a b (by omega), hc]
theorem bin_core (neg : Bool) (s A B L T R S1 S2 S3 S4 : ByteArray) (m M1 Z c : Nat) (w : World) (hz : s.size <= 60) (hp : 0 < s.size) (h0 : s[0].toNat = 40) (hms : m < s.size) (hmid : s[m].toNat = c)
   (HE : Hid (s.size - (auto [102] (tl s 1)).2.length = m)) (hA : s.extract 1 m = A) (hB : s.extract M1 Z = B) (w1 : IntKind.i64.wrap ((m : Int) + 1) = (M1 : Int)) (w2 : IntKind.i64.wrap ((s.size : Int) - 1) = (Z : Int))
   (k1 : (1 : Int) <= (m : Int)) (k2 : (m : Int) <= (s.size : Int)) (k2' : (m : Int) < (s.size : Int)) (k0 : (0 : Int) <= (m : Int)) (k00 : (0 : Int) <= (M1 : Int)) (k3 : (M1 : Int) <= (Z : Int)) (k4 : (Z : Int) <= (s.size : Int)) (k5 : M1 <= Z) (k6 : Z <= s.size)
   (HL : Hid (∀ w, Calls Tryz.prog 27 #[.string A, .bool neg] w fun e w' => e = .returned (.string L) ∧ Below w.heap.size w w'))
   (HR : Hid (∀ w, Calls Tryz.prog 27 #[.string B, .bool neg] w fun e w' => e = .returned (.string R) ∧ Below w.heap.size w w'))
   (HT : Hid (∀ w, Calls Tryz.prog 47 #[.int .u8 (c : Int), .bool neg] w fun e w' => e = .returned (.string T) ∧ Below w.heap.size w w'))
   (s1 : ∀ w : World, (Op.stringOp .add ⟨#[40]⟩ L).run Tryz.prog w = .ok (.string S1) w) (s2 : ∀ w : World, (Op.stringOp .add S1 T).run Tryz.prog w = .ok (.string S2) w)
   (s3 : ∀ w : World, (Op.stringOp .add S2 R).run Tryz.prog w = .ok (.string S3) w) (s4 : ∀ w : World, (Op.stringOp .add S3 ⟨#[41]⟩).run Tryz.prog w = .ok (.string S4) w) :
   Calls Tryz.prog 27 #[.string s, .bool neg] w fun e w' => e = .returned (.string S4) ∧ Below w.heap.size w w' := by
 go_enter Tryz.func27, Tryz.ntmps27
 go_wp2_with fail
 refine (end_1 s _ hz (by omega)).mono ?_
 rintro e w1 ⟨rfl, rfl⟩
 rw [HE.out]
 go_wp2_with fail
 go_region_held3 (fun _ => True) (trivial) (first
   | (go_at_call_of 27 A; refine (HL.out _).mono ?_; rintro e wA ⟨rfl, hbA⟩)
   | (go_at_call_of 27 B; refine (HR.out _).mono ?_; rintro e wB ⟨rfl, hbB⟩)
   | (go_at_call 47; refine (HT.out _).mono ?_; rintro e wT ⟨rfl, hbT⟩))
 all_goals
   go_wp2
   go_ret
   exact ⟨rfl, ((((Below.refl _ _).drew).trans hbA).trans (hbT.mono hbA.size)).trans (hbB.mono (Nat.le_trans hbA.size hbT.size))⟩
theorem x_core (neg : Bool) (s A L T S1 S2 : ByteArray) (c0 : Nat) (w : World) (hz : s.size <= 60) (hp : 0 < s.size) (hp1 : 1 < s.size) (hp2 : 2 <= s.size) (h0 : s[0].toNat = c0) (h1 : s[1].toNat = 88) (hA : s.extract 2 s.size = A)
   (b33 : ((c0 : Int) == 33) = false) (b40 : ((c0 : Int) == 40) = false) (hq : ((c0 : Int) != 69) = false ∨ (((c0 : Int) != 69) = true ∧ ((c0 : Int) != 65) = false))
   (HL : Hid (∀ w, Calls Tryz.prog 27 #[.string A, .bool neg] w fun e w' => e = .returned (.string L) ∧ Below w.heap.size w w'))
   (HT : Hid (∀ w, Calls Tryz.prog 47 #[.int .u8 (c0 : Int), .bool neg] w fun e w' => e = .returned (.string T) ∧ Below w.heap.size w w'))
   (s1 : ∀ w : World, (Op.stringOp .add T ⟨#[88]⟩).run Tryz.prog w = .ok (.string S1) w) (s2 : ∀ w : World, (Op.stringOp .add S1 L).run Tryz.prog w = .ok (.string S2) w) :
   Calls Tryz.prog 27 #[.string s, .bool neg] w fun e w' => e = .returned (.string S2) ∧ Below w.heap.size w w' := by
 have k1 : (0 : Int) < (s.size : Int) := by omega
 have k2 : (2 : Int) <= (s.size : Int) := by omega
 rcases hq with hq | ⟨hq, hq2⟩
 all_goals
   go_enter Tryz.func27, Tryz.ntmps27
   go_wp2_with fail
   go_region_held3 (fun _ => True) (trivial) (first
     | (go_at_call_of 27 A; refine (HL.out _).mono ?_; rintro e wA ⟨rfl, hbA⟩)
     | (go_at_call 47; refine (HT.out _).mono ?_; rintro e wT ⟨rfl, hbT⟩))
   all_goals
     go_wp2
     go_ret
     exact ⟨rfl, (((Below.refl _ _).drew).trans hbT).trans (hbA.mono hbT.size)⟩
theorem way_core (neg : Bool) (s A B L R S0 S1 S2 S3 S4 : ByteArray) (tf : Nat -> ByteArray) (m M1 Z c c0 : Nat) (w : World) (hz : s.size <= 60) (hp : 0 < s.size) (hp1 : 1 < s.size) (h0 : s[0].toNat = c0) (h1 : s[1].toNat = 91) (hms : m < s.size) (hmid : s[m].toNat = c)
   (b33 : ((c0 : Int) == 33) = false) (b40 : ((c0 : Int) == 40) = false) (hq : ((c0 : Int) != 69) = false ∨ (((c0 : Int) != 69) = true ∧ ((c0 : Int) != 65) = false))
   (HE : Hid (s.size - (auto [102] (tl s 2)).2.length = m)) (hA : s.extract 2 m = A) (hB : s.extract M1 Z = B) (w1 : IntKind.i64.wrap ((m : Int) + 1) = (M1 : Int)) (w2 : IntKind.i64.wrap ((s.size : Int) - 1) = (Z : Int))
   (k1 : (2 : Int) <= (m : Int)) (k2 : (m : Int) <= (s.size : Int)) (k2' : (m : Int) < (s.size : Int)) (k0 : (0 : Int) <= (m : Int)) (k00 : (0 : Int) <= (M1 : Int)) (k3 : (M1 : Int) <= (Z : Int)) (k4 : (Z : Int) <= (s.size : Int)) (k5 : M1 <= Z) (k6 : Z <= s.size)
   (HL : Hid (∀ w, Calls Tryz.prog 27 #[.string A, .bool neg] w fun e w' => e = .returned (.string L) ∧ Below w.heap.size w w'))
   (HR : Hid (∀ w, Calls Tryz.prog 27 #[.string B, .bool neg] w fun e w' => e = .returned (.string R) ∧ Below w.heap.size w w'))
   (HT : Hid (∀ x, x = c0 ∨ x = c -> ∀ w, Calls Tryz.prog 47 #[.int .u8 ((x : Nat) : Int), .bool neg] w fun e w' => e = .returned (.string (tf x)) ∧ Below w.heap.size w w'))
   (s0 : ∀ w : World, (Op.stringOp .add (tf c0) ⟨#[91]⟩).run Tryz.prog w = .ok (.string S0) w) (s1 : ∀ w : World, (Op.stringOp .add S0 L).run Tryz.prog w = .ok (.string S1) w) (s2 : ∀ w : World, (Op.stringOp .add S1 (tf c)).run Tryz.prog w = .ok (.string S2) w)
   (s3 : ∀ w : World, (Op.stringOp .add S2 R).run Tryz.prog w = .ok (.string S3) w) (s4 : ∀ w : World, (Op.stringOp .add S3 ⟨#[93]⟩).run Tryz.prog w = .ok (.string S4) w) :
   Calls Tryz.prog 27 #[.string s, .bool neg] w fun e w' => e = .returned (.string S4) ∧ Below w.heap.size w w' := by
 have k9 : (0 : Int) < (s.size : Int) := by omega
 rcases hq with hq | ⟨hq, hq2⟩
 all_goals
   go_enter Tryz.func27, Tryz.ntmps27
   go_wp2_with fail
   refine (end_2 s _ hz (by omega)).mono ?_
   rintro e w1 ⟨rfl, rfl⟩
   rw [HE.out]
   go_wp2_with fail
   go_region_held3 (fun _ => True) (trivial) (first
     | (go_at_call_of 27 A; refine (HL.out _).mono ?_; rintro e wA ⟨rfl, hbA⟩)
     | (go_at_call_of 27 B; refine (HR.out _).mono ?_; rintro e wB ⟨rfl, hbB⟩)
     | (go_at_call_of 47 (c0); refine (HT.out c0 (.inl rfl) _).mono ?_; rintro e wS ⟨rfl, hbS⟩)
     | (go_at_call_of 47 (c); refine (HT.out c (.inr rfl) _).mono ?_; rintro e wT ⟨rfl, hbT⟩))
   all_goals
     go_wp2
     go_ret
     exact ⟨rfl, (((((Below.refl _ _).drew).trans hbS).trans (hbA.mono hbS.size)).trans (hbT.mono (Nat.le_trans hbS.size hbA.size))).trans (hbB.mono (Nat.le_trans (Nat.le_trans hbS.size hbA.size) hbT.size))⟩
theorem sum_bs {a b c : List UInt8} (h : a.length + b.length <= 10000) (hc : a ++ b = c) : Sum (bs a) (bs b) (bs c) := by
 refine sum_of (by rw [bs_size, bs_size]; exact h) ?_
 rw [bs_add, hc]
theorem pushed_bin (sg : Nat) (l r : Fm) (hs : sg = 38 ∨ sg = 43) (gl : good l) (gr : good r) (ihl : PushAt l) (ihr : PushAt r) : PushAt (.node sg 0 () l r) := by
 intro neg s w h hz
 rw [txt_bin hs] at h
 have hsz := size_of h
 simp only [List.length_cons, List.length_append, List.length_nil] at hsz
 have hp : 0 < s.size := by omega
 have h0' : s[0].toNat = 40 := at0 h hp
 have hend := end_at1 h gl
 have hxl := ext_left1 h
 have hxr := ext_right1 h
 obtain ⟨m, hm⟩ : ∃ m, m = 1 + (txt l).length := ⟨_, rfl⟩
 have hms : m < s.size := by omega
 have hmid : s[m].toNat = sg := by rw [at_mid1 h m hm hms, b8_nat (by omega)]
 rw [<- hm] at hend hxl hxr
 have z1 := push_len l gl neg
 have z2 := push_len r gr neg
 rw [push_bin hs]
 exact bin_core neg s (s.extract 1 m) (s.extract (m + 1) (s.size - 1)) (bs (push l neg)) (bs [b8 (tn neg sg)]) (bs (push r neg)) (bs (40 :: push l neg)) (bs ((40 :: push l neg) ++ [b8 (tn neg sg)])) (bs (((40 :: push l neg) ++ [b8 (tn neg sg)]) ++ push r neg)) _
   m (m + 1) (s.size - 1) sg w hz hp h0' hms hmid hend rfl rfl (i64_add1 m (by omega)) (i64_sub1 s.size (by omega) (by omega)) (by omega) (by omega) (by omega) (by omega) (by omega) (by omega) (by omega) (by omega) (by omega)
   (fun w => ihl neg _ w hxl (by rw [size_of hxl]; omega)) (fun w => ihr neg _ w hxr (by rw [size_of hxr]; omega)) (fun w => turned_any sg neg (by unfold isSg; omega) w)
   (sum_bs (a := [40]) (by simp; omega) rfl) (sum_bs (by simp; omega) rfl) (sum_bs (by simp; omega) rfl) (sum_bs (b := [41]) (by simp; omega) (by simp))
theorem way_facts {c0 : Nat} (h : c0 = 69 ∨ c0 = 65) : ((c0 : Int) == 33) = false ∧ ((c0 : Int) == 40) = false ∧ (((c0 : Int) != 69) = false ∨ (((c0 : Int) != 69) = true ∧ ((c0 : Int) != 65) = false)) := by
 rcases h with rfl | rfl <;> decide
theorem pushed_x (wy : Nat) (l : Fm) (hv : wy = 69 ∨ wy = 65) (gl : good l) (ih : PushAt l) : PushAt (.node 88 wy () l .nil) := by
 intro neg s w h hz
 rw [txt_one88] at h
 have hsz := size_of h
 simp only [List.length_cons] at hsz
 have hp : 0 < s.size := by omega
 have hp1 : 1 < s.size := by omega
 have h0' : s[0].toNat = wy := by rw [at0 h hp, b8_nat (by omega)]
 have h1' : s[1].toNat = 88 := at1 h hp1
 have hx := ext_tail2 h
 have z1 := push_len l gl neg
 obtain ⟨f1, f2, f3⟩ := way_facts hv
 rw [push_x]
 exact x_core neg s (s.extract 2 s.size) (bs (push l neg)) (bs [b8 (tn neg wy)]) (bs [b8 (tn neg wy), 88]) _ wy w hz hp hp1 (by omega) h0' h1' rfl f1 f2 f3
   (fun w => ih neg _ w hx (by rw [size_of hx]; omega)) (fun w => turned_any wy neg (by unfold isSg; omega) w)
   (sum_bs (b := [88]) (by simp) rfl) (sum_bs (by simp; omega) rfl)
theorem pushed_way (sg wy : Nat) (l r : Fm) (hs : sg = 85 ∨ sg = 82) (hv : wy = 69 ∨ wy = 65) (gl : good l) (gr : good r) (ihl : PushAt l) (ihr : PushAt r) : PushAt (.node sg wy () l r) := by
 intro neg s w h hz
 rw [txt_way hs] at h
 have hsz := size_of h
 simp only [List.length_cons, List.length_append, List.length_nil] at hsz
 have hp : 0 < s.size := by omega
 have hp1 : 1 < s.size := by omega
 have h0' : s[0].toNat = wy := by rw [at0 h hp, b8_nat (by omega)]
 have h1' : s[1].toNat = 91 := at1 h hp1
 have hend := end_at2 h gl
 have hxl := ext_left2 h
 have hxr := ext_right2 h
 obtain ⟨m, hm⟩ : ∃ m, m = 2 + (txt l).length := ⟨_, rfl⟩
 have hms : m < s.size := by omega
 have hmid : s[m].toNat = sg := by rw [at_mid2 h m hm hms, b8_nat (by omega)]
 rw [<- hm] at hend hxl hxr
 have z1 := push_len l gl neg
 have z2 := push_len r gr neg
 obtain ⟨f1, f2, f3⟩ := way_facts hv
 rw [push_way hs]
 exact way_core neg s (s.extract 2 m) (s.extract (m + 1) (s.size - 1)) (bs (push l neg)) (bs (push r neg)) (bs [b8 (tn neg wy), 91]) (bs ([b8 (tn neg wy), 91] ++ push l neg)) (bs (([b8 (tn neg wy), 91] ++ push l neg) ++ [b8 (tn neg sg)])) (bs ((([b8 (tn neg wy), 91] ++ push l neg) ++ [b8 (tn neg sg)]) ++ push r neg)) _
   (fun x => bs [b8 (tn neg x)]) m (m + 1) (s.size - 1) sg wy w hz hp hp1 h0' h1' hms hmid f1 f2 f3 hend rfl rfl (i64_add1 m (by omega)) (i64_sub1 s.size (by omega) (by omega)) (by omega) (by omega) (by omega) (by omega) (by omega) (by omega) (by omega) (by omega) (by omega)
   (fun w => ihl neg _ w hxl (by rw [size_of hxl]; omega)) (fun w => ihr neg _ w hxr (by rw [size_of hxr]; omega)) (fun x hx w => turned_any x neg (by unfold isSg; omega) w)
   (sum_bs (b := [91]) (by simp) rfl) (sum_bs (by simp; omega) rfl) (sum_bs (by simp; omega) rfl) (sum_bs (by simp; omega) rfl) (sum_bs (b := [93]) (by simp; omega) (by simp))
theorem pushed_any : ∀ (t : Fm), good t -> PushAt t := by
 intro t
 induction t with
 | nil => intro h; exact absurd h (by simp [good])
 | node sg wy u l r ihl ihr =>
   intro h
   rcases good_cases h with ⟨c, e, hc, ht⟩ | ⟨x, e, hx, ht⟩ | ⟨s, x, y, e, hs, hx, hy, ht⟩ | ⟨v, x, e, hv, hx, ht⟩ | ⟨s, v, x, y, e, hs, hv, hx, hy, ht⟩
   · rw [e]; exact pushed_atom c hc
   · injection e with e3 e0 _ e1 e2
     subst e3 e0 e1 e2
     exact pushed_not _ (ihl hx)
   · injection e with e3 e0 _ e1 e2
     subst e3 e0 e1 e2
     exact pushed_bin _ _ _ hs hx hy (ihl hx) (ihr hy)
   · injection e with e3 e0 _ e1 e2
     subst e3 e0 e1 e2
     exact pushed_x _ _ hv hx (ihl hx)
   · injection e with e3 e0 _ e1 e2
     subst e3 e0 e1 e2
     exact pushed_way _ _ _ _ hs hv hx hy (ihl hx) (ihr hy)
end Go.Proofs.YtcfbfdjmcabnkabGreat
