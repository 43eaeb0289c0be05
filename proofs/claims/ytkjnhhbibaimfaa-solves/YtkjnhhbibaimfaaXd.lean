import Derived.Test.YtkjnhhbibaimfaaXc
namespace Go.Proofs.Ytkjnhhbibaimfaa
open Go.RowKit Fw
open Go.Deep (BT)
set_option linter.unusedVariables false

theorem nst_le : ∀ (t : Fm), good t → nst t ≤ (txt t).length := by
  intro t
  induction t with
  | nil => intro h; exact absurd h (by simp [good])
  | node sg wy u l r ihl ihr =>
    intro h
    rcases good_cases h with ⟨c, e, hc, ht⟩ | ⟨x, e, hx, ht⟩ | ⟨s, x, y, e, hs, hx, hy, ht⟩ | ⟨v, x, e, hv, hx, ht⟩ | ⟨s, v, x, y, e, hs, hv, hx, hy, ht⟩
    · rw [ht, e]; simp [nst]
    · rw [ht]
      injection e with _ e0 _ e1 e2
      subst e0 e1 e2
      have := ihl hx
      simp [nst]
      omega
    · rw [ht]
      injection e with _ e0 _ e1 e2
      subst e0 e1 e2
      have := ihl hx
      have := ihr hy
      simp [nst]
      omega
    · rw [ht]
      injection e with _ e0 _ e1 e2
      subst e0 e1 e2
      have := ihl hx
      simp only [nst, List.length_cons]
      split <;> omega
    · rw [ht]
      injection e with _ e0 _ e1 e2
      subst e0 e1 e2
      have := ihl hx
      have := ihr hy
      simp only [nst, List.length_cons, List.length_append]
      split <;> omega

theorem i64_1add (m : Nat) (h : m ≤ 1000) : IntKind.i64.wrap (1 + (m : Int)) = ((1 + m : Nat) : Int) := by
  rw [IntKind.wrap_i64]; omega

set_option maxRecDepth 100000 in
set_option maxHeartbeats 1000000 in
theorem nest_bin (sg : Nat) (l r : Fm) (hs : sg = 38 ∨ sg = 43) (gl : good l) (gr : good r) (ihl : NestAt l) (ihr : NestAt r) : NestAt (.node sg 0 () l r) := by
  intro s w h hz
  rw [txt_bin hs] at h
  have hsz := size_of h
  simp only [List.length_cons, List.length_append, List.length_nil] at hsz
  have hp : 0 < s.size := by omega
  have h0' : s[0].toNat = 40 := at0 h hp
  have hend := end_at1 h gl
  have hxl := ext_left1 h
  have hxr := ext_right1 h
  obtain ⟨m, hm⟩ : ∃ m, m = 1 + (txt l).length := ⟨_, rfl⟩
  rw [← hm] at hend hxl hxr
  have hb1 : 1 ≤ m := by omega
  have hb2 : m + 2 ≤ s.size := by omega
  obtain ⟨A, hA⟩ : ∃ A, A = s.extract 1 m := ⟨_, rfl⟩
  obtain ⟨B, hB⟩ : ∃ B, B = s.extract (m + 1) (s.size - 1) := ⟨_, rfl⟩
  rw [← hA] at hxl
  rw [← hB] at hxr
  have HL : Hid (A.data.toList = txt l) := hxl
  have HR : Hid (B.data.toList = txt r) := hxr
  have HLz : Hid (A.size ≤ 60) := by show _ ≤ _; rw [size_of hxl]; omega
  have HRz : Hid (B.size ≤ 60) := by show _ ≤ _; rw [size_of hxr]; omega
  have hA' := hA.symm
  have hB' := hB.symm
  have w1 := i64_add1 m (by omega)
  have w2 := i64_sub1 s.size (by omega) (by omega)
  have k1 : (1 : Int) ≤ (m : Int) := by omega
  have k2 : (m : Int) ≤ (s.size : Int) := by omega
  have k3 : ((m + 1 : Nat) : Int) ≤ ((s.size - 1 : Nat) : Int) := by omega
  have k4 : ((s.size - 1 : Nat) : Int) ≤ (s.size : Int) := by omega
  have HIL : Hid (NestAt l) := ihl
  have HIR : Hid (NestAt r) := ihr
  clear h hsz hm hxl hxr hA hB ihl ihr
  go_enter Try.func54, Try.ntmps54
  go_wp2_with fail
  refine (end_1 s _ hz (by omega)).mono ?_
  rintro e w1 ⟨rfl, rfl⟩
  rw [hend]
  clear hend
  go_wp2_with fail
  go_quiet (first
    | (go_at_call_of 54 A; exact Calls.quiet_of (HIL.out A _ HL.out HLz.out))
    | (go_at_call_of 54 B; exact Calls.quiet_of (HIR.out B _ HR.out HRz.out))
    | (go_at_call 76; exact Calls.quiet_of_same (max_any _ _ _)))
  go_wp2
  go_ret
  exact ⟨ret_int (by simp [nst]), _, rfl⟩

set_option maxRecDepth 100000 in
set_option maxHeartbeats 1000000 in
theorem nest_x69 (l : Fm) (gl : good l) (ih : NestAt l) : NestAt (.node 88 69 () l .nil) := by
  intro s w h hs
  rw [txt_one88] at h
  have hsz := size_of h
  simp only [List.length_cons] at hsz
  have hp : 0 < s.size := by omega
  have hp1 : 1 < s.size := by omega
  have hp2 : 2 ≤ s.size := by omega
  have h0' : s[0].toNat = 69 := at0 h hp
  have h1' : s[1].toNat = 88 := at1 h hp1
  have hn := nst_le l gl
  have hn2 : nst l ≤ 60 := by omega
  have HX : Hid ((s.extract 2 s.size).data.toList = txt l) := ext_tail2 h
  have HZ : Hid ((s.extract 2 s.size).size ≤ 60) := by show _ ≤ _; rw [ByteArray.size_extract]; omega
  clear h hsz hn
  go_enter Try.func54, Try.ntmps54
  go_wp2_with fail
  refine (ih _ _ HX.out HZ.out).mono ?_
  rintro e w1 ⟨rfl, n, rfl⟩
  go_wp2_with fail
  go_ret
  exact ⟨ret_int (by simp [nst]), n, rfl⟩

set_option maxRecDepth 100000 in
set_option maxHeartbeats 1000000 in
theorem nest_way69 (sg : Nat) (l r : Fm) (hs : sg = 85 ∨ sg = 82) (gl : good l) (gr : good r) (ihl : NestAt l) (ihr : NestAt r) : NestAt (.node sg 69 () l r) := by
  intro s w h hz
  rw [txt_way hs] at h
  have hsz := size_of h
  simp only [List.length_cons, List.length_append, List.length_nil] at hsz
  have hp : 0 < s.size := by omega
  have h0' : s[0].toNat = 69 := at0 h hp
  have hp1 : 1 < s.size := by omega
  have h1' : s[1].toNat = 91 := at1 h hp1
  have hnl := nst_le l gl
  have hnr := nst_le r gr
  have hend := end_at2 h gl
  have hxl := ext_left2 h
  have hxr := ext_right2 h
  obtain ⟨m, hm⟩ : ∃ m, m = 2 + (txt l).length := ⟨_, rfl⟩
  rw [← hm] at hend hxl hxr
  have hb1 : 2 ≤ m := by omega
  have hb2 : m + 2 ≤ s.size := by omega
  obtain ⟨A, hA⟩ : ∃ A, A = s.extract 2 m := ⟨_, rfl⟩
  obtain ⟨B, hB⟩ : ∃ B, B = s.extract (m + 1) (s.size - 1) := ⟨_, rfl⟩
  rw [← hA] at hxl
  rw [← hB] at hxr
  have HL : Hid (A.data.toList = txt l) := hxl
  have HR : Hid (B.data.toList = txt r) := hxr
  have HLz : Hid (A.size ≤ 60) := by show _ ≤ _; rw [size_of hxl]; omega
  have HRz : Hid (B.size ≤ 60) := by show _ ≤ _; rw [size_of hxr]; omega
  have hA' := hA.symm
  have hB' := hB.symm
  have w1 := i64_add1 m (by omega)
  have w2 := i64_sub1 s.size (by omega) (by omega)
  have hmx : max (nst l) (nst r) ≤ 60 := by omega
  have w3 := i64_1add (max (nst l) (nst r)) (by omega)
  have k1 : (2 : Int) ≤ (m : Int) := by omega
  have k2 : (m : Int) ≤ (s.size : Int) := by omega
  have k3 : ((m + 1 : Nat) : Int) ≤ ((s.size - 1 : Nat) : Int) := by omega
  have k4 : ((s.size - 1 : Nat) : Int) ≤ (s.size : Int) := by omega
  have HIL : Hid (NestAt l) := ihl
  have HIR : Hid (NestAt r) := ihr
  clear h hsz hm hxl hxr hA hB ihl ihr
  go_enter Try.func54, Try.ntmps54
  go_wp2_with fail
  refine (end_2 s _ hz (by omega)).mono ?_
  rintro e w1 ⟨rfl, rfl⟩
  rw [hend]
  clear hend
  go_wp2_with fail
  go_quiet (first
    | (go_at_call_of 54 A; exact Calls.quiet_of (HIL.out A _ HL.out HLz.out))
    | (go_at_call_of 54 B; exact Calls.quiet_of (HIR.out B _ HR.out HRz.out))
    | (go_at_call 76; exact Calls.quiet_of_same (max_any _ _ _)))
  go_wp2
  go_ret
  exact ⟨ret_int (by simp [nst]), _, rfl⟩

set_option maxRecDepth 100000 in
set_option maxHeartbeats 1000000 in
theorem nest_x65 (l : Fm) (gl : good l) (ih : NestAt l) : NestAt (.node 88 65 () l .nil) := by
  intro s w h hs
  rw [txt_one88] at h
  have hsz := size_of h
  simp only [List.length_cons] at hsz
  have hp : 0 < s.size := by omega
  have hp1 : 1 < s.size := by omega
  have hp2 : 2 ≤ s.size := by omega
  have h0' : s[0].toNat = 65 := at0 h hp
  have h1' : s[1].toNat = 88 := at1 h hp1
  have hn := nst_le l gl
  have hn2 : nst l ≤ 60 := by omega
  have HX : Hid ((s.extract 2 s.size).data.toList = txt l) := ext_tail2 h
  have HZ : Hid ((s.extract 2 s.size).size ≤ 60) := by show _ ≤ _; rw [ByteArray.size_extract]; omega
  clear h hsz hn
  go_enter Try.func54, Try.ntmps54
  go_wp2_with fail
  refine (ih _ _ HX.out HZ.out).mono ?_
  rintro e w1 ⟨rfl, n, rfl⟩
  go_wp2_with fail
  go_ret
  exact ⟨ret_int (by simp [nst]), n, rfl⟩

set_option maxRecDepth 100000 in
set_option maxHeartbeats 1000000 in
theorem nest_way65 (sg : Nat) (l r : Fm) (hs : sg = 85 ∨ sg = 82) (gl : good l) (gr : good r) (ihl : NestAt l) (ihr : NestAt r) : NestAt (.node sg 65 () l r) := by
  intro s w h hz
  rw [txt_way hs] at h
  have hsz := size_of h
  simp only [List.length_cons, List.length_append, List.length_nil] at hsz
  have hp : 0 < s.size := by omega
  have h0' : s[0].toNat = 65 := at0 h hp
  have hp1 : 1 < s.size := by omega
  have h1' : s[1].toNat = 91 := at1 h hp1
  have hnl := nst_le l gl
  have hnr := nst_le r gr
  have hend := end_at2 h gl
  have hxl := ext_left2 h
  have hxr := ext_right2 h
  obtain ⟨m, hm⟩ : ∃ m, m = 2 + (txt l).length := ⟨_, rfl⟩
  rw [← hm] at hend hxl hxr
  have hb1 : 2 ≤ m := by omega
  have hb2 : m + 2 ≤ s.size := by omega
  obtain ⟨A, hA⟩ : ∃ A, A = s.extract 2 m := ⟨_, rfl⟩
  obtain ⟨B, hB⟩ : ∃ B, B = s.extract (m + 1) (s.size - 1) := ⟨_, rfl⟩
  rw [← hA] at hxl
  rw [← hB] at hxr
  have HL : Hid (A.data.toList = txt l) := hxl
  have HR : Hid (B.data.toList = txt r) := hxr
  have HLz : Hid (A.size ≤ 60) := by show _ ≤ _; rw [size_of hxl]; omega
  have HRz : Hid (B.size ≤ 60) := by show _ ≤ _; rw [size_of hxr]; omega
  have hA' := hA.symm
  have hB' := hB.symm
  have w1 := i64_add1 m (by omega)
  have w2 := i64_sub1 s.size (by omega) (by omega)
  have hmx : max (nst l) (nst r) ≤ 60 := by omega
  have w3 := i64_1add (max (nst l) (nst r)) (by omega)
  have k1 : (2 : Int) ≤ (m : Int) := by omega
  have k2 : (m : Int) ≤ (s.size : Int) := by omega
  have k3 : ((m + 1 : Nat) : Int) ≤ ((s.size - 1 : Nat) : Int) := by omega
  have k4 : ((s.size - 1 : Nat) : Int) ≤ (s.size : Int) := by omega
  have HIL : Hid (NestAt l) := ihl
  have HIR : Hid (NestAt r) := ihr
  clear h hsz hm hxl hxr hA hB ihl ihr
  go_enter Try.func54, Try.ntmps54
  go_wp2_with fail
  refine (end_2 s _ hz (by omega)).mono ?_
  rintro e w1 ⟨rfl, rfl⟩
  rw [hend]
  clear hend
  go_wp2_with fail
  go_quiet (first
    | (go_at_call_of 54 A; exact Calls.quiet_of (HIL.out A _ HL.out HLz.out))
    | (go_at_call_of 54 B; exact Calls.quiet_of (HIR.out B _ HR.out HRz.out))
    | (go_at_call 76; exact Calls.quiet_of_same (max_any _ _ _)))
  go_wp2
  go_ret
  exact ⟨ret_int (by simp [nst]), _, rfl⟩

theorem nest_any : ∀ (t : Fm), good t → NestAt t := by
  intro t
  induction t with
  | nil => intro h; exact absurd h (by simp [good])
  | node sg wy u l r ihl ihr =>
    intro h
    rcases good_cases h with ⟨c, e, hc, ht⟩ | ⟨x, e, hx, ht⟩ | ⟨s, x, y, e, hs, hx, hy, ht⟩ | ⟨v, x, e, hv, hx, ht⟩ | ⟨s, v, x, y, e, hs, hv, hx, hy, ht⟩
    · rw [e]; exact nest_atom c hc
    · injection e with e3 e0 _ e1 e2
      subst e3 e0 e1 e2
      exact nest_not _ (ihl hx)
    · injection e with e3 e0 _ e1 e2
      subst e3 e0 e1 e2
      exact nest_bin _ _ _ hs hx hy (ihl hx) (ihr hy)
    · injection e with e3 e0 _ e1 e2
      subst e3 e0 e1 e2
      rcases hv with rfl | rfl
      · exact nest_x69 _ hx (ihl hx)
      · exact nest_x65 _ hx (ihl hx)
    · injection e with e3 e0 _ e1 e2
      subst e3 e0 e1 e2
      rcases hv with rfl | rfl
      · exact nest_way69 _ _ _ hs hx hy (ihl hx) (ihr hy)
      · exact nest_way65 _ _ _ hs hx hy (ihl hx) (ihr hy)

/-- P4, of a text of at most 30 bytes -/
def frm (s : ByteArray) : Nat × Nat :=
  if (pt (s.size + 1) (tl s 0)).1 = true ∧ (pt (s.size + 1) (tl s 0)).2.1 = [] then (if 3 < nst (pt (s.size + 1) (tl s 0)).2.2 then (6, 0) else (0, 0))
  else (5, s.size - (pt (s.size + 1) (tl s 0)).2.1.length)

theorem tl0 (s : ByteArray) : tl s 0 = s.data.toList := by simp [tl]

theorem place_frm (s : ByteArray) : ((pt (s.size + 1) (tl s 0)).1 = true ∧ (pt (s.size + 1) (tl s 0)).2.1 = [] ∧ placeOf s = -1) ∨
    (¬ ((pt (s.size + 1) (tl s 0)).1 = true ∧ (pt (s.size + 1) (tl s 0)).2.1 = []) ∧ placeOf s = ((s.size - (pt (s.size + 1) (tl s 0)).2.1.length : Nat) : Int)) := by
  have hl : (tl s 0).length = s.size := by rw [tl_length]; omega
  have := auto_pt (tl s 0)
  rw [hl] at this
  unfold placeOf
  rcases this with ⟨h1, h2⟩ | ⟨h1, st, h2, h3⟩
  · rw [h2]
    by_cases e : (pt (s.size + 1) (tl s 0)).2.1 = []
    · exact .inl ⟨h1, e, by simp [e]⟩
    · exact .inr ⟨fun h => e h.2, by simp [e]⟩
  · rw [h3]
    exact .inr ⟨(by rw [h1]; simp), by simp [h2]⟩

set_option maxRecDepth 100000 in
set_option maxHeartbeats 1000000 in
theorem refForm_long (s : ByteArray) (w : World) (hs : ¬ s.size ≤ 30) :
    Calls Try.prog 38 #[.string s] w fun e w' => e = .returned (.tuple #[.int .i64 1, .int .i64 0]) ∧ w' = w := by
  have h : (30 : Int) < (s.size : Int) := by omega
  go_enter Try.func38, Try.ntmps38
  go_wp2_with fail
  go_ret2
  exact ⟨rfl, rfl⟩

set_option maxRecDepth 100000 in
set_option maxHeartbeats 1000000 in
theorem refForm_any (s : ByteArray) (w : World) (hs : s.size ≤ 30) :
    Calls Try.prog 38 #[.string s] w fun e w' => e = .returned (.tuple #[.int .i64 ((frm s).1 : Nat), .int .i64 ((frm s).2 : Nat)]) ∧ ∃ n, w' = w.drewN n := by
  rcases place_frm s with ⟨h1, h2, hp⟩ | ⟨h1, hp⟩
  · have hg := pt_sound (s.size + 1) (tl s 0) h1
    rw [h2, List.append_nil, tl0] at hg
    have HF : Hid (frm s = if 3 < nst (pt (s.size + 1) (tl s 0)).2.2 then (6, 0) else (0, 0)) := by
      show _ = _
      unfold frm
      rw [if_pos ⟨h1, h2⟩]
    rw [← tl0] at hg
    obtain ⟨t, ht⟩ : ∃ t, t = (pt (s.size + 1) (tl s 0)).2.2 := ⟨_, rfl⟩
    rw [← ht] at hg HF
    have HG : Hid (s.data.toList = txt t ∧ good t) := by rw [← tl0]; exact hg
    clear hg ht h1 h2
    go_enter Try.func38, Try.ntmps38
    go_wp2_with fail
    refine (place_any s _ (by omega)).mono ?_
    rintro e w1 ⟨rfl, rfl⟩
    rw [hp]
    clear hp
    go_wp2_with fail
    refine (nest_any t HG.out.2 s _ HG.out.1 (by omega)).mono ?_
    rintro e w2 ⟨rfl, n, rfl⟩
    by_cases h3 : (3 : Int) < (nst t : Int)
    · go_wp2_with fail
      go_ret2
      exact ⟨by rw [HF.out, if_pos (by omega)]; rfl, n, rfl⟩
    · go_wp2_with fail
      go_ret2
      exact ⟨by rw [HF.out, if_neg (by omega)]; rfl, n, rfl⟩
  · have HF : Hid (frm s = (5, s.size - (pt (s.size + 1) (tl s 0)).2.1.length)) := by
      show _ = _
      unfold frm
      rw [if_neg h1]
    clear h1
    go_enter Try.func38, Try.ntmps38
    go_wp2_with fail
    refine (place_any s _ (by omega)).mono ?_
    rintro e w1 ⟨rfl, rfl⟩
    rw [hp]
    clear hp
    go_wp2_with fail
    go_ret2
    exact ⟨by rw [HF.out]; rfl, 0, rfl⟩

end Go.Proofs.Ytkjnhhbibaimfaa
