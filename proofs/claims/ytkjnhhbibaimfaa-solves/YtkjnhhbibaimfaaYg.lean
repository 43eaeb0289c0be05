import Derived.Test.YtkjnhhbibaimfaaYf
namespace Go.Proofs.Ytkjnhhbibaimfaa
open Go.RowKit Fw
open Go.Deep (BT)
set_option linter.unusedVariables false

theorem isLetter_33 (w : World) : Calls Try.prog 67 #[.int .u8 33] w fun e w' => e = .returned (.bool false) ∧ w' = w := isLetter_any 33 w
theorem isLetter_40 (w : World) : Calls Try.prog 67 #[.int .u8 40] w fun e w' => e = .returned (.bool false) ∧ w' = w := isLetter_any 40 w
theorem isLetter_69 (w : World) : Calls Try.prog 67 #[.int .u8 69] w fun e w' => e = .returned (.bool false) ∧ w' = w := isLetter_any 69 w
theorem isLetter_65 (w : World) : Calls Try.prog 67 #[.int .u8 65] w fun e w' => e = .returned (.bool false) ∧ w' = w := isLetter_any 65 w
theorem readWays_69 (n : Nat) (hP : PartAt n) (b p d : Nat) (s : ByteArray) (v : Value) (ns : List Nd) (w : World) (hs : s.size ≤ 30) (hp : p ≤ s.size) (hd : ns.length + (d + 1) ≤ p) (HR : Hid (Rd w b s p v ns)) (hn : s.size - p < n) :
    Calls Try.prog 71 #[.pointer (some ⟨b, 0, none⟩), .int .u8 69] w fun e w' => Out (Fw.ways (pt n) 69 (tl s p)) b s d v ns w e w' := readWays_any n hP 69 b p d s v ns w hs hp hd HR hn
theorem readWays_65 (n : Nat) (hP : PartAt n) (b p d : Nat) (s : ByteArray) (v : Value) (ns : List Nd) (w : World) (hs : s.size ≤ 30) (hp : p ≤ s.size) (hd : ns.length + (d + 1) ≤ p) (HR : Hid (Rd w b s p v ns)) (hn : s.size - p < n) :
    Calls Try.prog 71 #[.pointer (some ⟨b, 0, none⟩), .int .u8 65] w fun e w' => Out (Fw.ways (pt n) 65 (tl s p)) b s d v ns w e w' := readWays_any n hP 65 b p d s v ns w hs hp hd HR hn
theorem add_84 (b p : Nat) (s : ByteArray) (v : Value) (ns : List Nd) (w : World) (hn : ns.length ≤ 1000) (HR : Hid (Rd w b s p v ns)) :
    Calls Try.prog 68 #[.pointer (some ⟨b, 0, none⟩), .agg #[.int .u8 84, .int .u8 0, .int .i64 0, .int .i64 0, .int .i64 0]] w fun e w' =>
      e = .returned (.int .i64 (ns.length : Int)) ∧ ∃ v', Rd w' b s p v' (ns ++ [(84, 0, 0, 0, 0)]) ∧ Kp b v v' w w' := add_atom b p 84 s v ns w hn HR

set_option maxRecDepth 100000 in
set_option maxHeartbeats 3200000 in
theorem readPart_end (n b p d : Nat) (s : ByteArray) (v : Value) (ns : List Nd) (w : World) (hs : s.size ≤ 30) (hp : p ≤ s.size) (hd : ns.length + d ≤ p) (HR : Hid (Rd w b s p v ns)) (hlt : ¬ p < s.size) :
    Calls Try.prog 49 #[.pointer (some ⟨b, 0, none⟩)] w fun e w' => Out (pt (n + 1) (tl s p)) b s d v ns w e w' := by
  have c0 := HR.out.c0
  have c1 := HR.out.c1
  have hge : decide (s.size ≤ p) = true := by simp; omega
  have HT : Hid (pt (n + 1) (tl s p) = (false, tl s p, .nil)) := pt_end hlt
  go_enter Try.func49, Try.ntmps49
  go_wp2_with fail
  go_quiet (fail)
  go_wp2_with fail
  go_ret2
  show Out _ b s d v ns w _ _
  rw [HT.out]
  exact Out.fail (tl_len_pt s p hp) (HR.out.drewN _) ((Kp.refl _ _ _).drewN _) hd

set_option maxRecDepth 100000 in
set_option maxHeartbeats 3200000 in
theorem readPart_T (n b p d : Nat) (hP : PartAt n) (s : ByteArray) (v : Value) (ns : List Nd) (w : World) (hs : s.size ≤ 30) (hd : ns.length + d ≤ p) (HR : Hid (Rd w b s p v ns)) (hn : s.size - p < n + 1) (hlt : p < s.size) (hc : s[p].toNat = 84) :
    Calls Try.prog 49 #[.pointer (some ⟨b, 0, none⟩)] w fun e w' => Out (pt (n + 1) (tl s p)) b s d v ns w e w' := by
  have c0 := HR.out.c0
  have c1 := HR.out.c1
  have f1 := HR.out.fz 1 (by omega)
  have hge : decide (s.size ≤ p) = false := by simp; omega
  have hp0 : (0 : Int) ≤ (p : Int) := by omega
  have hp1 : (p : Int) < (s.size : Int) := by omega
  have HT : Hid (pt (n + 1) (tl s p) = (true, tl s (p + 1), .node 84 0 () .nil .nil)) := by
    show _ = _
    rw [pt_atom hlt (by rw [hc]; rfl), hc]
  go_enter Try.func49, Try.ntmps49
  go_wp2_with fail
  go_quiet (fail)
  go_wp2_with fail
  go_quiet (fail)
  go_wp2_with fail
  refine (add_84 b (p + 1) s v ns _ (by omega) ((HR.out.drewN _).move)).mono ?_
  rintro e w2 ⟨rfl, v2, hrd, hkp⟩
  have HRD : Hid (Rd w2 b s (p + 1) v2 (ns ++ [(84, 0, 0, 0, 0)])) := hrd
  have HKP : Hid (Kp b v v2 w w2) := (((Kp.refl b v w).drewN _).setB 1 _).trans hkp
  clear hrd hkp
  go_wp2_with fail
  go_ret2
  show Out _ b s d v ns w _ _
  rw [HT.out]
  refine ⟨v2, [(84, 0, 0, 0, 0)], ?_, HKP.out, ?_, .inl ⟨rfl, ns.length, rfl, ?_⟩⟩
  · show Rd w2 b s (s.size - (tl s (p + 1)).length) v2 _
    rw [tl_len_pt s (p + 1) (by omega)]
    exact HRD.out
  · show _ ≤ s.size - (tl s (p + 1)).length
    rw [tl_len_pt s (p + 1) (by omega)]
    simp
    omega
  · exact ⟨Rep.new (ns := ns) (sg := 84) (wy := 0) (li := 0) (ri := 0) (k := 0) (l := .nil) (r := .nil) trivial trivial rfl, fun h => h.snoc (.inl ⟨rfl, rfl, rfl⟩)⟩
set_option maxRecDepth 100000 in
set_option maxHeartbeats 3200000 in
theorem readPart_let (n b p d : Nat) (hP : PartAt n) (s : ByteArray) (v : Value) (ns : List Nd) (w : World) (hs : s.size ≤ 30) (hd : ns.length + d ≤ p) (HR : Hid (Rd w b s p v ns)) (hn : s.size - p < n + 1) (hlt : p < s.size) (c : Nat) (hc : s[p].toNat = c) (h1 : 97 ≤ c) (h2 : c ≤ 122) :
    Calls Try.prog 49 #[.pointer (some ⟨b, 0, none⟩)] w fun e w' => Out (pt (n + 1) (tl s p)) b s d v ns w e w' := by
  have c0 := HR.out.c0
  have c1 := HR.out.c1
  have f1 := HR.out.fz 1 (by omega)
  have hge : decide (s.size ≤ p) = false := by simp; omega
  have hp0 : (0 : Int) ≤ (p : Int) := by omega
  have hp1 : (p : Int) < (s.size : Int) := by omega
  have HT : Hid (pt (n + 1) (tl s p) = (true, tl s (p + 1), .node c 0 () .nil .nil)) := by
    show _ = _
    rw [pt_atom hlt (by rw [hc]; simp [isAtom]; omega), hc]
  have b84 : ((c : Int) == 84) = false := by rw [beq_eq_false_iff_ne]; omega
  have hl : isLet c = true := by simp [isLet]; omega
  go_enter Try.func49, Try.ntmps49
  go_wp2_with fail
  go_quiet (fail)
  go_wp2_with fail
  go_quiet (fail)
  go_wp2_with (go_at_call 67; refine (isLetter_any c _).mono ?_; rintro e w' ⟨rfl, rfl⟩)
  refine (add_atom b (p + 1) c s v ns _ (by omega) ((HR.out.drewN _).move)).mono ?_
  rintro e w2 ⟨rfl, v2, hrd, hkp⟩
  have HRD : Hid (Rd w2 b s (p + 1) v2 (ns ++ [(c, 0, 0, 0, 0)])) := hrd
  have HKP : Hid (Kp b v v2 w w2) := (((Kp.refl b v w).drewN _).setB 1 _).trans hkp
  clear hrd hkp
  go_wp2_with fail
  go_ret2
  show Out _ b s d v ns w _ _
  rw [HT.out]
  refine ⟨v2, [(c, 0, 0, 0, 0)], ?_, HKP.out, ?_, .inl ⟨rfl, ns.length, rfl, ?_⟩⟩
  · show Rd w2 b s (s.size - (tl s (p + 1)).length) v2 _
    rw [tl_len_pt s (p + 1) (by omega)]
    exact HRD.out
  · show _ ≤ s.size - (tl s (p + 1)).length
    rw [tl_len_pt s (p + 1) (by omega)]
    simp
    omega
  · exact ⟨Rep.new (ns := ns) (sg := c) (wy := 0) (li := 0) (ri := 0) (k := 0) (l := .nil) (r := .nil) trivial trivial rfl, fun h => h.snoc (.inl ⟨by simp [isAtom]; omega, rfl, rfl⟩)⟩
set_option maxRecDepth 100000 in
set_option maxHeartbeats 3200000 in
theorem readPart_not (n b p d : Nat) (hP : PartAt n) (s : ByteArray) (v : Value) (ns : List Nd) (w : World) (hs : s.size ≤ 30) (hd : ns.length + d ≤ p) (HR : Hid (Rd w b s p v ns)) (hn : s.size - p < n + 1) (hlt : p < s.size) (hc : s[p].toNat = 33) :
    Calls Try.prog 49 #[.pointer (some ⟨b, 0, none⟩)] w fun e w' => Out (pt (n + 1) (tl s p)) b s d v ns w e w' := by
  have c0 := HR.out.c0
  have c1 := HR.out.c1
  have f1 := HR.out.fz 1 (by omega)
  have hge : decide (s.size ≤ p) = false := by simp; omega
  have hp0 : (0 : Int) ≤ (p : Int) := by omega
  have hp1 : (p : Int) < (s.size : Int) := by omega
  have HT : Hid (pt (n + 1) (tl s p) = one 33 0 (pt n (tl s (p + 1)))) := pt_not hlt hc
  go_enter Try.func49, Try.ntmps49
  go_wp2_with fail
  go_quiet (fail)
  go_wp2_with fail
  go_quiet (fail)
  go_wp2_with (go_at_call 67; refine (isLetter_33 _).mono ?_; rintro e w' ⟨rfl, rfl⟩)
  refine (readOne_33 n hP b (p + 1) d s v ns _ hs (by omega) (by omega) ((HR.out.drewN _).move) (by omega)).mono ?_
  intro e w2 ho
  obtain ⟨i, ok, rfl⟩ := ho.pair
  have HO : Hid (Out (one 33 0 (pt n (tl s (p + 1)))) b s d v ns _ (.returned (.tuple #[.int .i64 i, .bool ok])) w2) := ho
  clear ho
  go_wp2_with fail
  go_ret2
  show Out _ b s d v ns w _ _
  rw [HT.out]
  exact HO.out.pre (((Kp.refl b v w).drewN _).setB 1 _)
set_option maxRecDepth 100000 in
set_option maxHeartbeats 3200000 in
theorem readPart_open (n b p d : Nat) (hP : PartAt n) (s : ByteArray) (v : Value) (ns : List Nd) (w : World) (hs : s.size ≤ 30) (hd : ns.length + d ≤ p) (HR : Hid (Rd w b s p v ns)) (hn : s.size - p < n + 1) (hlt : p < s.size) (hc : s[p].toNat = 40) :
    Calls Try.prog 49 #[.pointer (some ⟨b, 0, none⟩)] w fun e w' => Out (pt (n + 1) (tl s p)) b s d v ns w e w' := by
  have c0 := HR.out.c0
  have c1 := HR.out.c1
  have f1 := HR.out.fz 1 (by omega)
  have hge : decide (s.size ≤ p) = false := by simp; omega
  have hp0 : (0 : Int) ≤ (p : Int) := by omega
  have hp1 : (p : Int) < (s.size : Int) := by omega
  have HT : Hid (pt (n + 1) (tl s p) = two (pt n) 0 38 43 41 (tl s (p + 1))) := pt_open hlt hc
  go_enter Try.func49, Try.ntmps49
  go_wp2_with fail
  go_quiet (fail)
  go_wp2_with fail
  go_quiet (fail)
  go_wp2_with (go_at_call 67; refine (isLetter_40 _).mono ?_; rintro e w' ⟨rfl, rfl⟩)
  refine (readTwo_bin n hP b (p + 1) d s v ns _ hs (by omega) (by omega) ((HR.out.drewN _).move) (by omega)).mono ?_
  intro e w2 ho
  obtain ⟨i, ok, rfl⟩ := ho.pair
  have HO : Hid (Out (two (pt n) 0 38 43 41 (tl s (p + 1))) b s d v ns _ (.returned (.tuple #[.int .i64 i, .bool ok])) w2) := ho
  clear ho
  go_wp2_with fail
  go_ret2
  show Out _ b s d v ns w _ _
  rw [HT.out]
  exact HO.out.pre (((Kp.refl b v w).drewN _).setB 1 _)
set_option maxRecDepth 100000 in
set_option maxHeartbeats 3200000 in
theorem readPart_E (n b p d : Nat) (hP : PartAt n) (s : ByteArray) (v : Value) (ns : List Nd) (w : World) (hs : s.size ≤ 30) (hd : ns.length + d ≤ p) (HR : Hid (Rd w b s p v ns)) (hn : s.size - p < n + 1) (hlt : p < s.size) (hc : s[p].toNat = 69) :
    Calls Try.prog 49 #[.pointer (some ⟨b, 0, none⟩)] w fun e w' => Out (pt (n + 1) (tl s p)) b s d v ns w e w' := by
  have c0 := HR.out.c0
  have c1 := HR.out.c1
  have f1 := HR.out.fz 1 (by omega)
  have hge : decide (s.size ≤ p) = false := by simp; omega
  have hp0 : (0 : Int) ≤ (p : Int) := by omega
  have hp1 : (p : Int) < (s.size : Int) := by omega
  have HT : Hid (pt (n + 1) (tl s p) = Fw.ways (pt n) 69 (tl s (p + 1))) := by show _ = _; rw [pt_way hlt (.inl hc), hc]
  go_enter Try.func49, Try.ntmps49
  go_wp2_with fail
  go_quiet (fail)
  go_wp2_with fail
  go_quiet (fail)
  go_wp2_with (go_at_call 67; refine (isLetter_69 _).mono ?_; rintro e w' ⟨rfl, rfl⟩)
  refine (readWays_69 n hP b (p + 1) d s v ns _ hs (by omega) (by omega) ((HR.out.drewN _).move) (by omega)).mono ?_
  intro e w2 ho
  obtain ⟨i, ok, rfl⟩ := ho.pair
  have HO : Hid (Out (Fw.ways (pt n) 69 (tl s (p + 1))) b s d v ns _ (.returned (.tuple #[.int .i64 i, .bool ok])) w2) := ho
  clear ho
  go_wp2_with fail
  go_ret2
  show Out _ b s d v ns w _ _
  rw [HT.out]
  exact HO.out.pre (((Kp.refl b v w).drewN _).setB 1 _)
set_option maxRecDepth 100000 in
set_option maxHeartbeats 3200000 in
theorem readPart_A (n b p d : Nat) (hP : PartAt n) (s : ByteArray) (v : Value) (ns : List Nd) (w : World) (hs : s.size ≤ 30) (hd : ns.length + d ≤ p) (HR : Hid (Rd w b s p v ns)) (hn : s.size - p < n + 1) (hlt : p < s.size) (hc : s[p].toNat = 65) :
    Calls Try.prog 49 #[.pointer (some ⟨b, 0, none⟩)] w fun e w' => Out (pt (n + 1) (tl s p)) b s d v ns w e w' := by
  have c0 := HR.out.c0
  have c1 := HR.out.c1
  have f1 := HR.out.fz 1 (by omega)
  have hge : decide (s.size ≤ p) = false := by simp; omega
  have hp0 : (0 : Int) ≤ (p : Int) := by omega
  have hp1 : (p : Int) < (s.size : Int) := by omega
  have HT : Hid (pt (n + 1) (tl s p) = Fw.ways (pt n) 65 (tl s (p + 1))) := by show _ = _; rw [pt_way hlt (.inr hc), hc]
  go_enter Try.func49, Try.ntmps49
  go_wp2_with fail
  go_quiet (fail)
  go_wp2_with fail
  go_quiet (fail)
  go_wp2_with (go_at_call 67; refine (isLetter_65 _).mono ?_; rintro e w' ⟨rfl, rfl⟩)
  refine (readWays_65 n hP b (p + 1) d s v ns _ hs (by omega) (by omega) ((HR.out.drewN _).move) (by omega)).mono ?_
  intro e w2 ho
  obtain ⟨i, ok, rfl⟩ := ho.pair
  have HO : Hid (Out (Fw.ways (pt n) 65 (tl s (p + 1))) b s d v ns _ (.returned (.tuple #[.int .i64 i, .bool ok])) w2) := ho
  clear ho
  go_wp2_with fail
  go_ret2
  show Out _ b s d v ns w _ _
  rw [HT.out]
  exact HO.out.pre (((Kp.refl b v w).drewN _).setB 1 _)
set_option maxRecDepth 100000 in
set_option maxHeartbeats 3200000 in
theorem readPart_none (n b p d : Nat) (hP : PartAt n) (s : ByteArray) (v : Value) (ns : List Nd) (w : World) (hs : s.size ≤ 30) (hd : ns.length + d ≤ p) (HR : Hid (Rd w b s p v ns)) (hn : s.size - p < n + 1) (hlt : p < s.size) (c : Nat) (hc : s[p].toNat = c) (h84 : ¬ c = 84) (hn1 : ¬ (97 ≤ c ∧ c ≤ 122)) (h33 : ¬ c = 33) (h40 : ¬ c = 40) (h69 : ¬ c = 69) (h65 : ¬ c = 65) :
    Calls Try.prog 49 #[.pointer (some ⟨b, 0, none⟩)] w fun e w' => Out (pt (n + 1) (tl s p)) b s d v ns w e w' := by
  have c0 := HR.out.c0
  have c1 := HR.out.c1
  have f1 := HR.out.fz 1 (by omega)
  have hge : decide (s.size ≤ p) = false := by simp; omega
  have hp0 : (0 : Int) ≤ (p : Int) := by omega
  have hp1 : (p : Int) < (s.size : Int) := by omega
  have HT : Hid (pt (n + 1) (tl s p) = (false, tl s p, .nil)) := pt_none hlt (by rw [hc]; simp [isAtom]; omega) (by omega) (by omega) (by omega)
  have b84 : ((c : Int) == 84) = false := by rw [beq_eq_false_iff_ne]; omega
  have b33 : ((c : Int) == 33) = false := by rw [beq_eq_false_iff_ne]; omega
  have b40 : ((c : Int) == 40) = false := by rw [beq_eq_false_iff_ne]; omega
  have b69 : ((c : Int) == 69) = false := by rw [beq_eq_false_iff_ne]; omega
  have b65 : ((c : Int) == 65) = false := by rw [beq_eq_false_iff_ne]; omega
  have hl : isLet c = false := by simp [isLet]; omega
  go_enter Try.func49, Try.ntmps49
  go_wp2_with fail
  go_quiet (fail)
  go_wp2_with fail
  go_quiet (fail)
  go_wp2_with (go_at_call 67; refine (isLetter_any c _).mono ?_; rintro e w' ⟨rfl, rfl⟩)
  go_ret2
  show Out _ b s d v ns w _ _
  rw [HT.out]
  exact Out.fail (tl_len_pt s p (by omega)) (HR.out.drewN _) ((Kp.refl _ _ _).drewN _) hd
theorem readPart_any : ∀ n, PartAt n := by
  intro n
  induction n with
  | zero => intro b p d s v ns w _ _ _ _ h; omega
  | succ n ih =>
    intro b p d s v ns w hs hp hd HR hn
    by_cases hlt : p < s.size
    · by_cases h1 : s[p].toNat = 84
      · exact readPart_T n b p d ih s v ns w hs hd HR hn hlt h1
      by_cases h2 : s[p].toNat = 33
      · exact readPart_not n b p d ih s v ns w hs hd HR hn hlt h2
      by_cases h3 : s[p].toNat = 40
      · exact readPart_open n b p d ih s v ns w hs hd HR hn hlt h3
      by_cases h4 : s[p].toNat = 69
      · exact readPart_E n b p d ih s v ns w hs hd HR hn hlt h4
      by_cases h5 : s[p].toNat = 65
      · exact readPart_A n b p d ih s v ns w hs hd HR hn hlt h5
      by_cases h6 : 97 ≤ s[p].toNat ∧ s[p].toNat ≤ 122
      · exact readPart_let n b p d ih s v ns w hs hd HR hn hlt _ rfl h6.1 h6.2
      exact readPart_none n b p d ih s v ns w hs hd HR hn hlt _ rfl h1 h6 h2 h3 h4 h5
    · exact readPart_end n b p d s v ns w hs hp hd HR hlt

end Go.Proofs.Ytkjnhhbibaimfaa
