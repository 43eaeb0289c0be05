import Derived.Test.YtcfbfdjmcabnkaaG12
import Derived.Test.YtcfbfdjmcabnkaaGL
import Derived.Test.YtcfbfdjmcabnkaaG15
namespace Go.Proofs.Ytcfbfdjmcabnkaa
open Go.RowKit Fw
open Go.Deep (BT)
set_option linter.unusedVariables false

theorem bytes_same (a : ByteArray) : (a.toList == a.toList) = true := by simp

set_option maxRecDepth 100000 in
set_option maxHeartbeats 1000000 in
theorem tells_yes (g f s x : ByteArray) (w : World) (hf : f.size ≤ 9223372036854775807) (h : sol g f s = (x, 0)) :
    Calls Try.prog 12 #[.string g, .string f, .string s, .string x] w fun e w' => e = .returned (.bool true) ∧ Below w.heap.size w w' := by
  have HP := fun W => solve_all g f s W hf
  rw [h] at HP
  have h1 := bytes_same x
  clear h
  go_enter Try.func12, Try.ntmps12
  go_wp2_with (go_at_call 17; refine (HP _).mono ?_; rintro e w1 ⟨rfl, hb1⟩)
  go_ret
  exact ⟨rfl, hb1⟩

theorem awake1 : sol ⟨#[112, 62, 48, 49, 59, 113, 62, 50, 59, 62, 48, 59]⟩ ⟨#[]⟩ ⟨#[69, 88, 112]⟩ = (⟨#[49, 48, 49]⟩, 0) := by kernel_rfl
theorem awake2 : sol ⟨#[112, 62, 48, 49, 59, 113, 62, 50, 59, 62, 48, 59]⟩ ⟨#[113]⟩ ⟨#[65, 91, 84, 85, 113, 93]⟩ = (⟨#[49, 49, 49]⟩, 0) := by kernel_rfl

set_option maxRecDepth 100000 in
set_option maxHeartbeats 1000000 in
theorem awake_yes (w : World) : Calls Try.prog 16 #[] w fun e w' => e = .returned (.bool true) ∧ Below w.heap.size w w' := by
  have HA := fun W => tells_yes _ _ _ _ W (by decide) awake1
  have HB := fun W => tells_yes _ _ _ _ W (by decide) awake2
  go_enter Try.func16, Try.ntmps16
  go_wp2_with fail
  refine (HA _).mono ?_
  rintro e w1 ⟨rfl, hb1⟩
  go_wp2_with fail
  refine (HB _).mono ?_
  rintro e w2 ⟨rfl, hb2⟩
  go_wp2_with fail
  go_ret
  exact ⟨rfl, Below.to hb1 hb2⟩

/-- does a byte stand in a text -/
def hasB (s : ByteArray) (c : Nat) : Bool := decide (findc c (tl s 0) < s.size)
theorem hasB_iff (s : ByteArray) (c : Nat) : hasB s c = true ↔ ∃ d ∈ s.data.toList, d.toNat = c := by
  unfold hasB
  rw [decide_eq_true_eq, tlS, ← findc_lt c s.data.toList]
  have e : s.size = s.data.toList.length := by
    show s.data.size = _
    rw [Array.length_toList]
  rw [e]

set_option maxRecDepth 100000 in
set_option maxHeartbeats 1000000 in
theorem has_is (s : ByteArray) (c : Nat) (w : World) (hs : s.size ≤ 1000) :
    Calls Try.prog 23 #[.string s, .int .u8 (c : Int)] w fun e w' => e = .returned (.bool (hasB s c)) ∧ w' = w := by
  have HB : Hid (hasB s c = decide (findc c (tl s 0) < s.size)) := rfl
  obtain ⟨X, hX⟩ : ∃ X, X = hasB s c := ⟨_, rfl⟩
  rw [← hX] at HB
  rw [← hX]
  clear hX
  go_enter Try.func23, Try.ntmps23
  go_wp2_with fail
  go_loop [5] (fun q => ∃ k : Nat, k ≤ s.size ∧ q = .int .i64 k ∧ Hid (k + findc c (tl s k) = findc c (tl s 0))) (fun q => s.size - (intOf q).toNat)
  case atStart => exact ⟨0, by omega, rfl, by show _ = _; simp⟩
  case round =>
    obtain ⟨k, hk, rfl, HF⟩ := hrel
    by_cases hlt : k < s.size
    · by_cases hc : s[k].toNat = c
      · have hc' : ((s[k].toNat : Int) == (c : Int)) = true := by rw [beq_iff_eq]; omega
        have HZ : Hid (findc c (tl s k) = 0) := findc_yes hlt hc
        clear hc
        go_wp2_with fail
        go_ret
        have h := HF.out
        rw [HZ.out] at h
        have hv : X = true := by rw [HB.out, decide_eq_true_eq]; omega
        exact ⟨by rw [hv]; rfl, rfl⟩
      · have hc' : ((s[k].toNat : Int) == (c : Int)) = false := by rw [beq_eq_false_iff_ne]; omega
        have HZ : Hid (findc c (tl s k) = findc c (tl s (k + 1)) + 1) := findc_no hlt hc
        go_wp2_with fail
        go_round
        case rel =>
          refine ⟨k + 1, by omega, by go_num, ?_⟩
          have h := HF.out
          rw [HZ.out] at h
          show _ = _
          omega
        case measure => simp [intOf]; omega
    · go_wp2_with fail
      go_ret
      have h := HF.out
      rw [findc_end (by omega)] at h
      have hv : X = false := by rw [HB.out, decide_eq_false_iff_not]; omega
      exact ⟨by rw [hv]; rfl, rfl⟩

theorem bits_at (H : Nat → Bool) (n i : Nat) (X : ByteArray) (hX : X = bs (bitsU H n)) (hi : i < X.size) : X[i].toNat = if H i = true then 49 else 48 := by
  subst hX
  have hl : (bs (bitsU H n)).size = n := by rw [bs_size, bitsU_len]
  have hin : i < n := by omega
  have e : (bs (bitsU H n))[i] = (bitsU H n)[i]'(by rw [bitsU_len]; exact hin) := by
    show (bs (bitsU H n)).data[i] = _
    simp [bs]
  rw [e]
  simp only [bitsU, List.getElem_map, List.getElem_range]
  split <;> rfl

set_option maxRecDepth 100000 in
set_option maxHeartbeats 1000000 in
theorem flipped_is (H : Nat → Bool) (n : Nat) (hn : n ≤ 6) (w : World) :
    Calls Try.prog 21 #[.string (bs (bitsU H n))] w fun e w' => e = .returned (.string (bs (bitsU (fun j => !(H j)) n))) ∧ w' = w := by
  have hl : (bs (bitsU H n)).size = n := by rw [bs_size, bitsU_len]
  obtain ⟨X, hX⟩ : ∃ X, X = bs (bitsU H n) := ⟨_, rfl⟩
  have HXX : Hid (∀ (i : Nat) (hi : i < X.size), X[i].toNat = if H i = true then 49 else 48) := fun i hi => bits_at H n i X hX hi
  rw [← hX] at hl
  rw [← hX]
  clear hX
  go_enter Try.func21, Try.ntmps21
  go_wp2_with fail
  go_loop [3, 4] (fun v q => ∃ k : Nat, k ≤ n ∧ v = .string (bs (bitsU (fun j => !(H j)) k)) ∧ q = .int .i64 k) (fun _ q => n - (intOf q).toNat)
  case atStart => exact ⟨0, by omega, rfl, rfl⟩
  case round =>
    obtain ⟨k, hk, rfl, rfl⟩ := hrel
    have hls : (X.size : Int) = (n : Int) := by omega
    by_cases hlt : k < n
    · have hkX : k < X.size := by omega
      have hb := HXX.out k hkX
      have hl2 : (bs (bitsU (fun j => !(H j)) k)).size = k := by rw [bs_size, bitsU_len]
      have hl3 : (bs (bitsU (fun j => !(H j)) k)).size ≤ 6 := by omega
      have HB := bitsU_succ (fun j => !(H j)) k
      cases hx : H k with
      | true =>
        rw [hx, if_pos rfl] at hb
        rw [hx] at HB
        have hb' : ((X[k].toNat : Int) == 48) = false := by rw [beq_eq_false_iff_ne]; omega
        have HB' : Hid (bs (bitsU (fun j => !(H j)) k) ++ (⟨#[48]⟩ : ByteArray) = bs (bitsU (fun j => !(H j)) (k + 1))) := by show _ = _; rw [HB, if_neg (by simp)]; exact bs_add _ [48]
        clear HB hx hb
        go_wp2_with fail
        go_round
        case rel => exact ⟨k + 1, by omega, by rw [HB'.out], by go_num⟩
        case measure => simp [intOf]; omega
      | false =>
        rw [hx, if_neg (by simp)] at hb
        rw [hx] at HB
        have hb' : ((X[k].toNat : Int) == 48) = true := by rw [beq_iff_eq]; omega
        have HB' : Hid (bs (bitsU (fun j => !(H j)) k) ++ (⟨#[49]⟩ : ByteArray) = bs (bitsU (fun j => !(H j)) (k + 1))) := by show _ = _; rw [HB, if_pos (by simp)]; exact bs_add _ [49]
        clear HB hx hb
        go_wp2_with fail
        go_round
        case rel => exact ⟨k + 1, by omega, by rw [HB'.out], by go_num⟩
        case measure => simp [intOf]; omega
    · have hkn : k = n := by omega
      have HK : Hid (k = n) := hkn
      clear hkn
      go_wp2_with fail
      go_ret
      exact ⟨by rw [← HK.out]; rfl, rfl⟩

set_option maxRecDepth 100000 in
set_option maxHeartbeats 1000000 in
theorem agrees_yes (g f s x : ByteArray) (w : World) (hf : f.size ≤ 9223372036854775807) (h : s.size ≤ 30 → sol g f s = (x, 0)) :
    Calls Try.prog 20 #[.string g, .string f, .string s, .string x] w fun e w' => e = .returned (.bool true) ∧ Below w.heap.size w w' := by
  by_cases hs : s.size ≤ 30
  · have HT := fun W => tells_yes g f s x W hf (h hs)
    have h1 : ¬ (30 : Int) < (s.size : Int) := by omega
    clear h
    go_enter Try.func20, Try.ntmps20
    go_wp2_with (go_at_call 12; refine (HT _).mono ?_; rintro e w1 ⟨rfl, hb1⟩)
    go_ret
    exact ⟨rfl, hb1⟩
  · have h1 : (30 : Int) < (s.size : Int) := by omega
    clear h
    go_enter Try.func20, Try.ntmps20
    go_wp2_with fail
    go_ret
    exact ⟨rfl, Below.refl _ _⟩

end Go.Proofs.Ytcfbfdjmcabnkaa

namespace Go.Proofs.Ytcfbfdjmcabnkaa
open Go.RowKit Fw
open Go.Deep (BT)
set_option linter.unusedVariables false

theorem sol_zero {g f s : ByteArray} (h : flt g f s = 0) : sol g f s = (bs (bitsU (holdsB (gphOf g) (fsOf f) (treeOf s)) (gphOf g).n), 0) := by rw [sol, if_pos h]
theorem sol_err {g f s : ByteArray} (h : flt g f s ≠ 0) : sol g f s = (ByteArray.empty, flt g f s) := by rw [sol, if_neg h]
theorem flt_of {g f s : ByteArray} (h1 : g.size ≤ 210) (h2 : s.size ≤ 30) (h3 : (chk g).1 = 0) (h4 : fairOk f = true) : flt g f s = (frm s).1 := by
  unfold flt
  rw [if_neg (by omega), if_neg (by rw [h3]; simp), if_neg (by rw [h4]; simp)]
theorem psh_zero {s : ByteArray} (hs : s.size ≤ 30) (h : (frm s).1 = 0) : pshAll s = bs (push (treeOf s) false) ∧ (frmAll s).1 = 0 := by
  have h0 : (frmAll s).1 = 0 := by rw [frmAll, if_pos hs]; exact h
  exact ⟨by rw [pshAll, if_pos h0]; rfl, h0⟩

theorem hasB_no {l : List UInt8} {c : Nat} (h : hasB (bs l) c = false) : ∀ d ∈ l, ¬ d.toNat = c := by
  intro d hd he
  have : hasB (bs l) c = true := (hasB_iff _ _).2 ⟨d, by simpa [bs] using hd, he⟩
  rw [h] at this
  cases this

/-- what fair marks do to a formula without A, without E, once pushed -/
theorem fewer_bits {G : Gph} (ok : G.ok) {fs : List Nat} {t : Fm} (gt : good t) :
    (hasB (bs (push t false)) 65 = false → ∀ i, i < G.n → holdsB G fs t i = true → holdsB G [] t i = true) ∧ (hasB (bs (push t false)) 69 = false → ∀ i, i < G.n → holdsB G [] t i = true → holdsB G fs t i = true) := by
  obtain ⟨h1, h2⟩ := fewer (G := G) (fs := fs) t gt false
  refine ⟨fun ha i hi h => ?_, fun he i hi h => ?_⟩
  · rw [holdsB_iff ok t gt i hi] at h ⊢
    exact ((pushT_sat t gt i).1).1 (h1 (hasB_no ha) i (((pushT_sat t gt i).1).2 h))
  · rw [holdsB_iff ok t gt i hi] at h ⊢
    exact ((pushT_sat t gt i).1).1 (h2 (hasB_no he) i (((pushT_sat t gt i).1).2 h))

theorem push_le {s : ByteArray} (hs : s.size ≤ 30) (h : (frm s).1 = 0) : (bs (push (treeOf s) false)).size ≤ 1000 := by
  obtain ⟨h1, h2⟩ := frm_zero h
  rw [bs_size]
  have := push_len (treeOf s) h2 false
  have hz := size_of h1
  omega

end Go.Proofs.Ytcfbfdjmcabnkaa

