import Derived.Test.YtcfbfdjmcabnkaaGR1
import Derived.Test.YtcfbfdjmcabnkaaG12
namespace Go.Proofs.Ytcfbfdjmcabnkaa
open Go.RowKit Fw
open Go.Deep (BT)
set_option linter.unusedVariables false

/-- block b is a certificate's reader at place p; its nodes lie in block g -/
structure Cr (w : World) (b g cap : Nat) (G : Gph) (K : Nat → ByteArray) (f : ByteArray) (B : Nat → Bool) (ns : List Nd) (s : ByteArray) (p : Nat) : Prop where
  wy : Wy w b 0 G K f B
  c52 : w.cell? ⟨b, 52, none⟩ = some (.slice (some ⟨g, 0, none⟩) ns.length cap)
  c53 : w.cell? ⟨b, 53, none⟩ = some (.string s)
  c54 : w.cell? ⟨b, 54, none⟩ = some (.int .i64 (p : Int))
  fz : w.frozen? ⟨b, 54, none⟩ = false
  nr : Nr w g ns
  ne : g ≠ b

/-- of what was there, only block b may have turned -/
structure Kq (b : Nat) (w w' : World) : Prop where
  os : w'.os = w.os
  tape : w'.tape = w.tape
  output : w'.output = w.output
  size : w.heap.size ≤ w'.heap.size
  keep : ∀ k, k < w.heap.size → k ≠ b → w'.heap[k]? = w.heap[k]?

theorem Kq.refl (b : Nat) (w : World) : Kq b w w := ⟨rfl, rfl, rfl, Nat.le_refl _, fun _ _ _ => rfl⟩
theorem Kq.trans {b : Nat} {w w' w'' : World} (h : Kq b w w') (k : Kq b w' w'') : Kq b w w'' :=
  ⟨k.os.trans h.os, k.tape.trans h.tape, k.output.trans h.output, Nat.le_trans h.size k.size, fun x hx hb => (k.keep x (Nat.lt_of_lt_of_le hx h.size) hb).trans (h.keep x hx hb)⟩
theorem Kq.drewN {b : Nat} {w w' : World} (h : Kq b w w') (n : Nat) : Kq b w (w'.drewN n) := ⟨h.os, h.tape, h.output, h.size, h.keep⟩
theorem Kq.drew {b : Nat} {w w' : World} (h : Kq b w w') : Kq b w w'.drew := ⟨h.os, h.tape, h.output, h.size, h.keep⟩
theorem Kq.setB {b : Nat} {w w' : World} (h : Kq b w w') (o : Nat) (u : Value) : Kq b w (w'.setCell ⟨b, o, none⟩ u) :=
  ⟨h.os, h.tape, h.output, by simpa using h.size, fun k h1 h2 => (Below.heap_setCell _ _ _ _ h2).trans (h.keep k h1 h2)⟩
theorem Kq.alloc {b : Nat} {w w' : World} (h : Kq b w w') (o : Obj) : Kq b w (w'.alloc o) :=
  ⟨h.os, h.tape, h.output, by have := h.size; simp; omega, fun k h1 h2 => (Below.heap_alloc _ _ _ (by have := h.size; omega)).trans (h.keep k h1 h2)⟩
theorem Kq.setNew {b : Nat} {w w' : World} (h : Kq b w w') {H o : Nat} (u : Value) (hH : w.heap.size ≤ H) : Kq b w (w'.setCell ⟨H, o, none⟩ u) :=
  ⟨h.os, h.tape, h.output, by simpa using h.size, fun k h1 h2 => (Below.heap_setCell _ _ _ _ (by simp; omega)).trans (h.keep k h1 h2)⟩
theorem Kq.new {b : Nat} {w w' w'' : World} (h : Kq b w w') (k : Below w.heap.size w' w'') : Kq b w w'' :=
  ⟨k.os.trans h.os, k.tape.trans h.tape, k.output.trans h.output, Nat.le_trans h.size k.size, fun x hx hb => (k.block x hx).trans (h.keep x hx hb)⟩
theorem Kq.unbox {b : Nat} {w w' : World} {o : Obj} (h : Kq b (w.alloc o) w') : Kq b w w' := ((Kq.refl b w).alloc o).trans h
theorem Kq.cell {b : Nat} {w w' : World} (h : Kq b w w') {k : Nat} (h1 : k < w.heap.size) (h2 : k ≠ b) (j : Nat) : w'.cell? ⟨k, j, none⟩ = w.cell? ⟨k, j, none⟩ :=
  World.cell?_of_block (w := w) (h.keep k h1 h2)
theorem Kq.frozen {b : Nat} {w w' : World} (h : Kq b w w') {k : Nat} (h1 : k < w.heap.size) (h2 : k ≠ b) (j : Nat) : w'.frozen? ⟨k, j, none⟩ = w.frozen? ⟨k, j, none⟩ :=
  World.frozen?_of_block (w := w) (h.keep k h1 h2)
theorem Kq.below {b : Nat} {w w' : World} (h : Kq b w w') (hb : b ≤ w.heap.size) : Below b w w' :=
  ⟨h.os, h.tape, h.output, h.size, fun k hk => h.keep k (by omega) (by omega)⟩

section
variable {w w' : World} {b g cap : Nat} {G : Gph} {K : Nat → ByteArray} {f : ByteArray} {B : Nat → Bool} {ns : List Nd} {s : ByteArray} {p : Nat}

/-- where the two blocks are as they were -/
theorem Cr.same (h : Cr w b g cap G K f B ns s p) (hs : w.heap.size ≤ w'.heap.size) (hb : w'.heap[b]? = w.heap[b]?) (hg : w'.heap[g]? = w.heap[g]?) : Cr w' b g cap G K f B ns s p := by
  have cb : ∀ j, w'.cell? ⟨b, j, none⟩ = w.cell? ⟨b, j, none⟩ := fun j => World.cell?_of_block (w := w) hb
  have cg : ∀ j, w'.cell? ⟨g, j, none⟩ = w.cell? ⟨g, j, none⟩ := fun j => World.cell?_of_block (w := w) hg
  have fb : ∀ j, w'.frozen? ⟨b, j, none⟩ = w.frozen? ⟨b, j, none⟩ := fun j => World.frozen?_of_block (w := w) hb
  exact ⟨⟨Nat.lt_of_lt_of_le h.wy.lt hs, h.wy.n6, (cb _).trans h.wy.cn, fun i hi => (cb _).trans (h.wy.cm i hi), fun i j hi hj => (cb _).trans (h.wy.ce i j hi hj), (cb _).trans h.wy.cf, fun i hi => (cb _).trans (h.wy.cb i hi), h.wy.ks, h.wy.mm⟩,
    (cb _).trans h.c52, (cb _).trans h.c53, (cb _).trans h.c54, (fb _).trans h.fz, ⟨Nat.lt_of_lt_of_le h.nr.lt hs, fun i x hx j u hu => (cg _).trans (h.nr.c i x hx j u hu)⟩, h.ne⟩
theorem Cr.drewN (h : Cr w b g cap G K f B ns s p) (n : Nat) : Cr (w.drewN n) b g cap G K f B ns s p := h.same (Nat.le_refl _) rfl rfl
theorem Cr.drew (h : Cr w b g cap G K f B ns s p) : Cr w.drew b g cap G K f B ns s p := h.same (Nat.le_refl _) rfl rfl
theorem Cr.alloc (h : Cr w b g cap G K f B ns s p) (o : Obj) : Cr (w.alloc o) b g cap G K f B ns s p :=
  h.same (by simp) (Below.heap_alloc _ _ _ h.wy.lt) (Below.heap_alloc _ _ _ h.nr.lt)
theorem Cr.setOther (h : Cr w b g cap G K f B ns s p) {H o : Nat} (u : Value) (h1 : H ≠ b) (h2 : H ≠ g) : Cr (w.setCell ⟨H, o, none⟩ u) b g cap G K f B ns s p :=
  h.same (by simp) (Below.heap_setCell _ _ _ _ (Ne.symm h1)) (Below.heap_setCell _ _ _ _ (Ne.symm h2))
theorem Cr.below (h : Cr w b g cap G K f B ns s p) {k : Nat} (hb : Below k w w') (h1 : b < k) (h2 : g < k) : Cr w' b g cap G K f B ns s p :=
  h.same hb.size (hb.block b h1) (hb.block g h2)
theorem Cr.move (h : Cr w b g cap G K f B ns s p) : Cr (w.setCell ⟨b, 54, none⟩ (.int .i64 ((p : Int) + 1))) b g cap G K f B ns s (p + 1) := by
  have cb : ∀ j, j ≠ 54 → (w.setCell ⟨b, 54, none⟩ (.int .i64 ((p : Int) + 1))).cell? ⟨b, j, none⟩ = w.cell? ⟨b, j, none⟩ := fun j hj => cell_otherY (addr_ne3 (Ne.symm hj))
  have cg : ∀ j, (w.setCell ⟨b, 54, none⟩ (.int .i64 ((p : Int) + 1))).cell? ⟨g, j, none⟩ = w.cell? ⟨g, j, none⟩ := fun j => cell_otherY (addr_nb (Ne.symm h.ne))
  refine ⟨⟨by simpa using h.wy.lt, h.wy.n6, (cb _ (by omega)).trans h.wy.cn, fun i hi => (cb _ (by omega)).trans (h.wy.cm i hi), fun i j hi hj => (cb _ (by omega)).trans (h.wy.ce i j hi hj), (cb _ (by omega)).trans h.wy.cf, fun i hi => (cb _ (by omega)).trans (h.wy.cb i hi), h.wy.ks, h.wy.mm⟩,
    (cb _ (by omega)).trans h.c52, (cb _ (by omega)).trans h.c53, ?_, ?_, ⟨by simpa using h.nr.lt, fun i x hx j u hu => (cg _).trans (h.nr.c i x hx j u hu)⟩, h.ne⟩
  · rw [cell_sameY h.c54]; simp
  · rw [World.frozen?_setCell]; exact h.fz
end

theorem stands_big (s : ByteArray) (p : Nat) (c : Nat) (w : World) (hs : s.size ≤ 4000000) (hp : p ≤ 4000001) (hc : c < 256) :
    Calls Try.prog 78 #[.string s, .int .i64 p, .int .u8 c] w fun e w' => e = .returned (.bool (isAt s p c)) ∧ w' = w := by
  unfold isAt
  by_cases hlt : p < s.size
  · by_cases he : s[p].toNat = c
    · have he' : ((s[p].toNat : Int) == (c : Int)) = true := by rw [beq_iff_eq]; omega
      go_enter Try.func78, Try.ntmps78
      go_wp2
      go_ret
      exact ⟨by simp [hlt, he], rfl⟩
    · have he' : ((s[p].toNat : Int) == (c : Int)) = false := by rw [beq_eq_false_iff_ne]; omega
      go_enter Try.func78, Try.ntmps78
      go_wp2
      go_ret
      exact ⟨by simp [hlt, he], rfl⟩
  · go_enter Try.func78, Try.ntmps78
    go_wp2
    go_ret
    exact ⟨by simp [hlt], rfl⟩

set_option maxRecDepth 100000 in
set_option maxHeartbeats 1000000 in
theorem cskip_any (b g cap c p : Nat) (G : Gph) (K : Nat → ByteArray) (f : ByteArray) (B : Nat → Bool) (ns : List Nd) (s : ByteArray) (w : World) (hs : s.size ≤ 4000000) (hp : p ≤ s.size) (hc : c < 256) (HR : Hid (Cr w b g cap G K f B ns s p)) :
    Calls Try.prog 62 #[.pointer (some ⟨b, 0, none⟩), .int .u8 (c : Int)] w fun e w' =>
      ((isAt s p c = true ∧ e = .returned (.bool true) ∧ Cr w' b g cap G K f B ns s (p + 1)) ∨ (isAt s p c = false ∧ e = .returned (.bool false) ∧ Cr w' b g cap G K f B ns s p)) ∧ Kq b w w' := by
  have c53 := HR.out.c53
  have c54 := HR.out.c54
  have f1 := HR.out.fz
  cases hA : isAt s p c with
  | true =>
    have HA : Hid (isAt s p c = true) := hA
    go_enter Try.func62, Try.ntmps62
    go_wp2_with fail
    go_quiet ((go_at_call 78; exact Calls.quiet_of_same (stands_big s p c _ (by omega) (by omega) hc)))
    go_wp2_with fail
    go_ret
    exact ⟨.inl ⟨by first | exact HA.out | trivial, rfl, (HR.out.drewN _).move⟩, ((Kq.refl _ _).drewN _).setB 54 _⟩
  | false =>
    have HA : Hid (isAt s p c = false) := hA
    go_enter Try.func62, Try.ntmps62
    go_wp2_with fail
    go_quiet ((go_at_call 78; exact Calls.quiet_of_same (stands_big s p c _ (by omega) (by omega) hc)))
    go_wp2_with fail
    go_ret
    exact ⟨.inr ⟨by first | exact HA.out | trivial, rfl, HR.out.drewN _⟩, (Kq.refl _ _).drewN _⟩

end Go.Proofs.Ytcfbfdjmcabnkaa

namespace Go.Proofs.Ytcfbfdjmcabnkaa
open Go.RowKit Fw
open Go.Deep (BT)
set_option linter.unusedVariables false

/-- a node's cells, as the reader reads them -/
structure Ct5 (w : World) (b g cap n i sg wy li ri k : Nat) : Prop where
  hi : i < n
  c52 : w.cell? ⟨b, 52, none⟩ = some (.slice (some ⟨g, 0, none⟩) n cap)
  n0 : w.cell? ⟨g, i * 5, none⟩ = some (.int .u8 (sg : Int))
  n1 : w.cell? ⟨g, i * 5 + 1, none⟩ = some (.int .u8 (wy : Int))
  n2 : w.cell? ⟨g, i * 5 + 2, none⟩ = some (.int .i64 (li : Int))
  n3 : w.cell? ⟨g, i * 5 + 3, none⟩ = some (.int .i64 (ri : Int))
  n4 : w.cell? ⟨g, i * 5 + 4, none⟩ = some (.int .i64 (k : Int))

theorem Cr.at {w : World} {b g cap : Nat} {G : Gph} {K : Nat → ByteArray} {f : ByteArray} {B : Nat → Bool} {ns : List Nd} {s : ByteArray} {p : Nat} (h : Cr w b g cap G K f B ns s p) {i sg wy li ri k : Nat} (hx : ns[i]? = some (sg, wy, li, ri, k)) : Ct5 w b g cap ns.length i sg wy li ri k :=
  ⟨(List.getElem?_eq_some_iff.1 hx).1, h.c52, h.nr.c i _ hx 0 _ rfl, h.nr.c i _ hx 1 _ rfl, h.nr.c i _ hx 2 _ rfl, h.nr.c i _ hx 3 _ rfl, h.nr.c i _ hx 4 _ rfl⟩

set_option maxRecDepth 100000 in
set_option maxHeartbeats 1000000 in
theorem so_atom (b g cap i st sg li ri k p : Nat) (G : Gph) (K : Nat → ByteArray) (f : ByteArray) (B : Nat → Bool) (ns : List Nd) (s : ByteArray) (w : World) (hst : st < 6) (hc : isAtom sg = true) (HA : Hid (Ct5 w b g cap ns.length i sg 0 li ri k)) (HR : Hid (Cr w b g cap G K f B ns s p)) :
    Calls Try.prog 63 #[.pointer (some ⟨b, 0, none⟩), .int .i64 (i : Int), .int .i64 (st : Int)] w fun e w' => e = .returned (.bool (decide (sg = 84) || G.m st sg)) ∧ Below w.heap.size w w' := by
  obtain ⟨hi, c52, n0, n1, n2, n3, n4⟩ := HA.out
  have hi2 : (i : Int) < (ns.length : Int) := by omega
  simp only [isAtom, decide_eq_true_eq] at hc
  have b33 : ((sg : Int) == 33) = false := by rw [beq_eq_false_iff_ne]; omega
  have hbl := HR.out.wy.lt
  have hgl := HR.out.nr.lt
  have HB := fun W (h : Hid (Wy W b 0 G K f B)) => bearsP_is b 0 st sg G K f B W hst h
  by_cases h84 : sg = 84
  · subst h84
    go_enter Try.func63, Try.ntmps63
    go_wp2_with fail
    go_quiet (fail)
    go_wp2_with fail
    go_ret
    exact ⟨by simp, below_drewN ((Below.refl _ _).alloc (Nat.le_refl _) _) _⟩
  · have b84 : ((sg : Int) == 84) = false := by rw [beq_eq_false_iff_ne]; omega
    have HD : Hid ((decide (sg = 84) || G.m st sg) = G.m st sg) := by show _ = _; simp [h84]
    rw [HD.out]
    clear hc h84 HD
    go_enter Try.func63, Try.ntmps63
    go_wp2_with fail
    go_quiet ((go_at_call 79; exact Calls.quiet_of_same (HB _ (by first | exact (HR.out.alloc _).wy | exact ((HR.out.alloc _).drew).wy | exact ((HR.out.alloc _).drewN _).wy))))
    go_wp2_with fail
    go_ret
    exact ⟨rfl, below_drewN ((Below.refl _ _).alloc (Nat.le_refl _) _) _⟩

set_option maxRecDepth 100000 in
set_option maxHeartbeats 1000000 in
theorem so_not (b g cap i st li ri k : Nat) (n : Nat) (X : Bool) (w : World) (HA : Hid (Ct5 w b g cap n i 33 0 li ri k)) (hgl : g < w.heap.size) (hbl : b < w.heap.size)
    (HX : Hid (∀ W, Below w.heap.size w W → Calls Try.prog 63 #[.pointer (some ⟨b, 0, none⟩), .int .i64 (li : Int), .int .i64 (st : Int)] W fun e w' => e = .returned (.bool X) ∧ Below W.heap.size W w')) :
    Calls Try.prog 63 #[.pointer (some ⟨b, 0, none⟩), .int .i64 (i : Int), .int .i64 (st : Int)] w fun e w' => e = .returned (.bool (!X)) ∧ Below w.heap.size w w' := by
  obtain ⟨hi, c52, n0, n1, n2, n3, n4⟩ := HA.out
  have hi2 : (i : Int) < (n : Int) := by omega
  go_enter Try.func63, Try.ntmps63
  go_wp2_with fail
  refine (HX.out _ ((Below.refl _ _).alloc (Nat.le_refl _) _)).mono ?_
  rintro e w1 ⟨rfl, hb1⟩
  go_wp2_with fail
  go_ret
  exact ⟨rfl, ((Below.refl _ _).alloc (Nat.le_refl _) _).trans (hb1.mono (by simp))⟩

/-- a way's cells -/
def lasC (ls : List Nat) (n fr : Nat) : List Value := (List.range 40).map (fun i => .int .i64 ((ls.getD i 0 : Nat) : Int)) ++ [.int .i64 (n : Int), .int .i64 (fr : Int)]
theorem lasC_len (ls : List Nat) (n fr : Nat) : (lasC ls n fr).length = 42 := by simp [lasC]
theorem lasC_one (ls : List Nat) (n fr : Nat) : (lasC ls n fr).toArray.all (·.oneCell') = true := by
  refine all_oneCell_toArray fun v hv => ?_
  simp only [lasC, List.mem_append, List.mem_map, List.mem_cons, List.not_mem_nil, or_false] at hv
  rcases hv with ⟨k, _, rfl⟩ | rfl | rfl <;> rfl
theorem lasC_at (ls : List Nat) (n fr i : Nat) (hi : i < 40) : (lasC ls n fr)[i]? = some (.int .i64 ((ls.getD i 0 : Nat) : Int)) := by
  unfold lasC
  rw [List.getElem?_append_left (by simp; exact hi), List.getElem?_map, List.getElem?_range hi]
  rfl
theorem lasC_n (ls : List Nat) (n fr : Nat) : (lasC ls n fr)[40]? = some (.int .i64 (n : Int)) := by
  unfold lasC
  rw [List.getElem?_append_right (by simp)]
  simp
theorem lasC_f (ls : List Nat) (n fr : Nat) : (lasC ls n fr)[41]? = some (.int .i64 (fr : Int)) := by
  unfold lasC
  rw [List.getElem?_append_right (by simp)]
  simp

/-- block H is a way: the states at its listed places, how many, where its loop begins -/
structure Ls (w : World) (H : Nat) (ls : List Nat) (fr : Nat) : Prop where
  lt : H < w.heap.size
  le : ls.length ≤ 40
  c : ∀ i, i < 40 → w.cell? ⟨H, i, none⟩ = some (.int .i64 ((ls.getD i 0 : Nat) : Int))
  cn : w.cell? ⟨H, 40, none⟩ = some (.int .i64 (ls.length : Int))
  cf : w.cell? ⟨H, 41, none⟩ = some (.int .i64 (fr : Int))
  z : ∀ o, o < 42 → w.frozen? ⟨H, o, none⟩ = false

theorem Ls.range {w : World} {H fr : Nat} {ls : List Nat} (h : Ls w H ls fr) : w.rangeAt H 0 (lasC ls ls.length fr) := by
  intro j v hv
  have hj := (List.getElem?_eq_some_iff.1 hv).1
  rw [lasC_len] at hj
  rw [Nat.zero_add]
  rcases Nat.lt_or_ge j 40 with h1 | h1
  · rw [lasC_at _ _ _ _ h1] at hv
    rw [← hv]
    exact h.c j h1
  · obtain rfl | rfl : j = 40 ∨ j = 41 := by omega
    · rw [lasC_n] at hv
      rw [← hv]
      exact h.cn
    · rw [lasC_f] at hv
      rw [← hv]
      exact h.cf
theorem ls_of {w : World} {H fr : Nat} {ls : List Nat} (lt : H < w.heap.size) (le : ls.length ≤ 40) (h : w.rangeAt H 0 (lasC ls ls.length fr)) (z : ∀ o, o < 42 → w.frozen? ⟨H, o, none⟩ = false) : Ls w H ls fr := by
  refine ⟨lt, le, fun i hi => ?_, ?_, ?_, z⟩
  · have := h i _ (lasC_at _ _ _ _ hi)
    rw [Nat.zero_add] at this
    exact this
  · exact h 40 _ (lasC_n _ _ _)
  · exact h 41 _ (lasC_f _ _ _)
theorem Ls.there {w : World} {H fr : Nat} {ls : List Nat} (h : Ls w H ls fr) : w.there H 0 42 := fun j hj => by
  rw [Nat.zero_add]
  refine ⟨?_, h.z j hj⟩
  rcases Nat.lt_or_ge j 40 with h1 | h1
  · rw [h.c j h1]; rfl
  · obtain rfl | rfl : j = 40 ∨ j = 41 := by omega
    · rw [h.cn]; rfl
    · rw [h.cf]; rfl
theorem Ls.same {w w' : World} {H fr : Nat} {ls : List Nat} (h : Ls w H ls fr) (hs : w.heap.size ≤ w'.heap.size) (hb : w'.heap[H]? = w.heap[H]?) : Ls w' H ls fr :=
  ⟨Nat.lt_of_lt_of_le h.lt hs, h.le, fun i hi => (World.cell?_of_block (w := w) hb).trans (h.c i hi), (World.cell?_of_block (w := w) hb).trans h.cn, (World.cell?_of_block (w := w) hb).trans h.cf, fun o ho => (World.frozen?_of_block (w := w) hb).trans (h.z o ho)⟩
theorem Ls.below {w w' : World} {H fr k : Nat} {ls : List Nat} (h : Ls w H ls fr) (hb : Below k w w') (hk : H < k) : Ls w' H ls fr := h.same hb.size (hb.block H hk)
theorem Ls.kq {w w' : World} {H fr b : Nat} {ls : List Nat} (h : Ls w H ls fr) (hk : Kq b w w') (hb : H ≠ b) : Ls w' H ls fr := h.same hk.size (hk.keep H h.lt hb)
theorem Ls.drew {w : World} {H fr : Nat} {ls : List Nat} (h : Ls w H ls fr) : Ls w.drew H ls fr := h.same (Nat.le_refl _) rfl
theorem Ls.drewN {w : World} {H fr : Nat} {ls : List Nat} (h : Ls w H ls fr) (n : Nat) : Ls (w.drewN n) H ls fr := h.same (Nat.le_refl _) rfl
theorem Ls.alloc {w : World} {H fr : Nat} {ls : List Nat} (h : Ls w H ls fr) (o : Obj) : Ls (w.alloc o) H ls fr := h.same (by simp) (Below.heap_alloc _ _ _ h.lt)

/-- one more place -/
theorem Ls.push {w : World} {H fr : Nat} {ls : List Nat} (h : Ls w H ls fr) (d : Nat) (hl : ls.length < 40) :
    Ls ((w.setCell ⟨H, ls.length, none⟩ (.int .i64 (d : Int))).setCell ⟨H, 40, none⟩ (.int .i64 ((ls.length : Int) + 1))) H (ls ++ [d]) fr := by
  refine ⟨by simpa using h.lt, by simp; omega, ?_, ?_, ?_, ?_⟩
  · intro i hi
    rw [cell_otherY (addr_ne3 (by omega))]
    by_cases e : ls.length = i
    · subst e
      rw [cell_sameY (h.c _ hi)]
      simp [List.getD]
    · rw [cell_otherY (addr_ne3 e), h.c i hi]
      rcases Nat.lt_or_ge i ls.length with h1 | h1
      · simp [List.getD, List.getElem?_append_left h1]
      · have h2 : (ls ++ [d]).length ≤ i := by simp; omega
        rw [List.getD, List.getElem?_eq_none h1, List.getD, List.getElem?_eq_none h2]
  · rw [cell_sameY (by rw [cell_otherY (addr_ne3 (by omega))]; exact h.cn)]
    simp
  · rw [cell_otherY (addr_ne3 (by omega)), cell_otherY (addr_ne3 (by omega))]
    exact h.cf
  · intro o ho
    rw [World.frozen?_setCell, World.frozen?_setCell]
    exact h.z o ho
theorem Ls.loop {w : World} {H fr : Nat} {ls : List Nat} (h : Ls w H ls fr) (k : Nat) : Ls (w.setCell ⟨H, 41, none⟩ (.int .i64 (k : Int))) H ls k := by
  refine ⟨by simpa using h.lt, h.le, ?_, ?_, cell_sameY h.cf, ?_⟩
  · intro i hi
    rw [cell_otherY (addr_ne3 (by omega))]
    exact h.c i hi
  · rw [cell_otherY (addr_ne3 (by omega))]
    exact h.cn
  · intro o ho
    rw [World.frozen?_setCell]
    exact h.z o ho

set_option maxRecDepth 100000 in
set_option maxHeartbeats 1000000 in
theorem after_is (H fr k : Nat) (ls : List Nat) (w : World) (hk : k ≤ 40) (HL : Hid (Ls w H ls fr)) :
    Calls Try.prog 76 #[.pointer (some ⟨H, 0, none⟩), .int .i64 (k : Int)] w fun e w' => e = .returned (.int .i64 ((nxt ls.length fr k : Nat) : Int)) ∧ w' = w := by
  have cn := HL.out.cn
  have cf := HL.out.cf
  by_cases h : k + 1 = ls.length
  · have h1 : (((k : Int) + 1) == (ls.length : Int)) = true := by rw [beq_iff_eq]; omega
    have HN : Hid (nxt ls.length fr k = fr) := by show _ = _; unfold nxt; rw [if_pos h]
    rw [HN.out]
    clear h
    go_enter Try.func76, Try.ntmps76
    go_wp2_with fail
    go_ret
    exact ⟨rfl, rfl⟩
  · have h1 : (((k : Int) + 1) == (ls.length : Int)) = false := by rw [beq_eq_false_iff_ne]; omega
    have HN : Hid (nxt ls.length fr k = k + 1) := by show _ = _; unfold nxt; rw [if_neg h]
    rw [HN.out]
    clear h
    go_enter Try.func76, Try.ntmps76
    go_wp2_with fail
    go_ret
    exact ⟨ret_int (by omega), rfl⟩

end Go.Proofs.Ytcfbfdjmcabnkaa

namespace Go.Proofs.Ytcfbfdjmcabnkaa
open Go.RowKit Fw
open Go.Deep (BT)
set_option linter.unusedVariables false

/-- the last listed -/
def lastL (ls : List Nat) : Nat := ls.getD (ls.length - 1) 0

theorem Kq.heapSet {b : Nat} {w w' : World} (h : Kq b w w') (o : Nat) (u : Value) : (w'.setCell ⟨b, o, none⟩ u).heap.size = w'.heap.size := by simp

set_option maxRecDepth 100000 in
set_option maxHeartbeats 1000000 in
theorem add_is (H fr d : Nat) (ls : List Nat) (w : World) (hl : ls.length < 40) (HL : Hid (Ls w H ls fr)) :
    Calls Try.prog 88 #[.pointer (some ⟨H, 0, none⟩), .int .i64 (d : Int)] w fun e w' => e = .returned (.tuple #[]) ∧ Ls w' H (ls ++ [d]) fr ∧ Kq H w w' ∧ w'.heap.size = w.heap.size := by
  have c40 := HL.out.cn
  have z40 := HL.out.z 40 (by omega)
  obtain ⟨k, hk⟩ : ∃ k, k = ls.length := ⟨_, rfl⟩
  have HKK : Hid (k = ls.length) := hk
  have ck := HL.out.c k (by omega)
  have zk := HL.out.z k (by omega)
  rw [← hk] at c40 hl
  clear hk
  have h40 : (k : Int) < 40 := by omega
  have k0 : (0 : Int) ≤ (k : Int) := by omega
  go_enter Try.func88, Try.ntmps88
  go_wp2_with fail
  go_region
  all_goals
    go_wp2_with fail
    refine bodyPost_end (v := .tuple #[]) (by simp [results, Try.results88, go_sem]) rfl ⟨rfl, ?_, ?_, ?_⟩
    · have := HL.out.push d (by have := HKK.out; omega)
      rw [← HKK.out] at this
      exact this.drew
    · exact (((Kq.refl H w).setB _ _).setB _ _).drew
    · simp

end Go.Proofs.Ytcfbfdjmcabnkaa

namespace Go.Proofs.Ytcfbfdjmcabnkaa
open Go.RowKit Fw
open Go.Deep (BT)
set_option linter.unusedVariables false

/-- of what was there, only blocks b and H may have turned -/
structure K2 (b H : Nat) (w w' : World) : Prop where
  os : w'.os = w.os
  tape : w'.tape = w.tape
  output : w'.output = w.output
  size : w.heap.size ≤ w'.heap.size
  keep : ∀ k, k < w.heap.size → k ≠ b → k ≠ H → w'.heap[k]? = w.heap[k]?
theorem K2.refl (b H : Nat) (w : World) : K2 b H w w := ⟨rfl, rfl, rfl, Nat.le_refl _, fun _ _ _ _ => rfl⟩
theorem K2.drew {b H : Nat} {w w' : World} (h : K2 b H w w') : K2 b H w w'.drew := ⟨h.os, h.tape, h.output, h.size, h.keep⟩
theorem K2.setB {b H : Nat} {w w' : World} (h : K2 b H w w') (o : Nat) (u : Value) : K2 b H w (w'.setCell ⟨b, o, none⟩ u) :=
  ⟨h.os, h.tape, h.output, by simpa using h.size, fun k h1 h2 h3 => (Below.heap_setCell _ _ _ _ h2).trans (h.keep k h1 h2 h3)⟩
theorem K2.setH {b H : Nat} {w w' : World} (h : K2 b H w w') (o : Nat) (u : Value) : K2 b H w (w'.setCell ⟨H, o, none⟩ u) :=
  ⟨h.os, h.tape, h.output, by simpa using h.size, fun k h1 h2 h3 => (Below.heap_setCell _ _ _ _ h3).trans (h.keep k h1 h2 h3)⟩
theorem K2.kq {b H : Nat} {w w' w'' : World} (h : Kq b w w') (k : K2 b H w' w'') (hH : w.heap.size ≤ H) : Kq b w w'' :=
  ⟨k.os.trans h.os, k.tape.trans h.tape, k.output.trans h.output, Nat.le_trans h.size k.size, fun x hx hb => (k.keep x (Nat.lt_of_lt_of_le hx h.size) hb (by omega)).trans (h.keep x hx hb)⟩

theorem dig_end {n r : Nat} {s : ByteArray} {q : Nat} (h : ¬ q < s.size) : dig n r (tl s q) = [] := by
  rw [tl_nil s q (by omega)]
  cases r <;> rfl
theorem dig_full {n : Nat} {l : List UInt8} : dig n 0 l = [] := by cases l <;> rfl
theorem dig_no {n r : Nat} {s : ByteArray} {q : Nat} (h : q < s.size) (h1 : ¬ (48 ≤ s[q].toNat ∧ s[q].toNat < 48 + n)) : dig n r (tl s q) = [] := by
  rw [tl_cons s q h]
  cases r with
  | zero => rfl
  | succ r => rw [dig, if_neg h1]
theorem dig_yes {n r d : Nat} {s : ByteArray} {q : Nat} (h : q < s.size) (hr : 0 < r) (h1 : s[q].toNat = d + 48) (h2 : d < n) : dig n r (tl s q) = d :: dig n (r - 1) (tl s (q + 1)) := by
  obtain ⟨r, rfl⟩ : ∃ m, r = m + 1 := ⟨r - 1, by omega⟩
  rw [tl_cons s q h, dig, if_pos (by omega), h1]
  simp

/-- how far reading has come -/
def DigInv (n r : Nat) (s : ByteArray) (p : Nat) (d : List Nat) : Prop := dig n r (tl s p) = d ++ dig n (r - d.length) (tl s (p + d.length))
theorem DigInv.start (n r : Nat) (s : ByteArray) (p : Nat) : DigInv n r s p [] := by simp [DigInv]
theorem DigInv.stop {n r : Nat} {s : ByteArray} {p : Nat} {d : List Nat} (h : DigInv n r s p d) (h0 : dig n (r - d.length) (tl s (p + d.length)) = []) : dig n r (tl s p) = d := by
  unfold DigInv at h
  rw [h, h0, List.append_nil]
theorem DigInv.step {n r x : Nat} {s : ByteArray} {p : Nat} {d : List Nat} (h : DigInv n r s p d) (h0 : p + d.length < s.size) (hr : d.length < r) (h1 : s[p + d.length].toNat = x + 48) (h2 : x < n) : DigInv n r s p (d ++ [x]) := by
  unfold DigInv at h ⊢
  rw [h, dig_yes h0 (by omega) h1 h2]
  simp [Nat.sub_sub, Nat.add_assoc]

theorem Ls.pushK {w : World} {H fr k : Nat} {ls : List Nat} (h : Ls w H ls fr) (d : Nat) (hk : ls.length = k) (hl : k < 40) :
    Ls ((w.setCell ⟨H, k, none⟩ (.int .i64 (d : Int))).setCell ⟨H, 40, none⟩ (.int .i64 ((k : Int) + 1))) H (ls ++ [d]) fr := by
  subst hk
  exact h.push d hl
theorem Ls.setOther {w : World} {H fr b o : Nat} {ls : List Nat} (h : Ls w H ls fr) (u : Value) (hb : H ≠ b) : Ls (w.setCell ⟨b, o, none⟩ u) H ls fr :=
  h.same (by simp) (Below.heap_setCell _ _ _ _ hb)
theorem Cr.place {w : World} {b g cap p q : Nat} {G : Gph} {K : Nat → ByteArray} {f : ByteArray} {B : Nat → Bool} {ns : List Nd} {s : ByteArray} (h : Cr w b g cap G K f B ns s p) (e : p = q) : Cr w b g cap G K f B ns s q := e ▸ h

theorem Cr.kqH {w w' : World} {b g cap p H : Nat} {G : Gph} {K : Nat → ByteArray} {f : ByteArray} {B : Nat → Bool} {ns : List Nd} {s : ByteArray} (h : Cr w b g cap G K f B ns s p) (k : Kq H w w') (h1 : H ≠ b) (h2 : H ≠ g) : Cr w' b g cap G K f B ns s p :=
  h.same k.size (k.keep b h.wy.lt (Ne.symm h1)) (k.keep g h.nr.lt (Ne.symm h2))
theorem K2.kqH {b H : Nat} {w w' w'' : World} (h : K2 b H w w') (k : Kq H w' w'') : K2 b H w w'' :=
  ⟨k.os.trans h.os, k.tape.trans h.tape, k.output.trans h.output, Nat.le_trans h.size k.size, fun x hx h1 h2 => (k.keep x (Nat.lt_of_lt_of_le hx h.size) h2).trans (h.keep x hx h1 h2)⟩
theorem listed_fin {b g cap H fr p r : Nat} {ls d : List Nat} {G : Gph} {K : Nat → ByteArray} {f : ByteArray} {B : Nat → Bool} {ns : List Nd} {s : ByteArray} {w w' : World} (hc : Cr w' b g cap G K f B ns s (p + d.length)) (hl : Ls w' H (ls ++ d) fr) (hk : K2 b H w w') (hi : DigInv G.n r s p d) (he : dig G.n (r - d.length) (tl s (p + d.length)) = []) :
    Cr w' b g cap G K f B ns s (p + (dig G.n r (tl s p)).length) ∧ Ls w' H (ls ++ dig G.n r (tl s p)) fr ∧ K2 b H w w' := by
  rw [hi.stop he]
  exact ⟨hc, hl, hk⟩

set_option maxRecDepth 100000 in
set_option maxHeartbeats 2000000 in
theorem listed_is (b g cap H fr p : Nat) (ls : List Nat) (G : Gph) (K : Nat → ByteArray) (f : ByteArray) (B : Nat → Bool) (ns : List Nd) (s : ByteArray) (w : World) (hs : s.size ≤ 4000000) (hp : p ≤ s.size) (h1 : H ≠ b) (h2 : H ≠ g) (HR : Hid (Cr w b g cap G K f B ns s p)) (HL : Hid (Ls w H ls fr)) :
    Calls Try.prog 85 #[.pointer (some ⟨b, 0, none⟩), .pointer (some ⟨H, 0, none⟩)] w fun e w' => e = .returned (.tuple #[]) ∧
      Cr w' b g cap G K f B ns s (p + (dig G.n (40 - ls.length) (tl s p)).length) ∧ Ls w' H (ls ++ dig G.n (40 - ls.length) (tl s p)) fr ∧ K2 b H w w' := by
  have hn6 := HR.out.wy.n6
  have hle := HL.out.le
  have h1' : b ≠ H := Ne.symm h1
  have h1x : H ≠ b := h1
  go_enter Try.func85, Try.ntmps85
  go_wp2_with fail
  go_loopw [4] (fun q wr => ∃ d : List Nat, p + d.length ≤ s.size ∧ ls.length + d.length ≤ 40 ∧ Hid (DigInv G.n (40 - ls.length) s p d) ∧ Hid (Cr wr b g cap G K f B ns s (p + d.length)) ∧ Hid (Ls wr H (ls ++ d) fr) ∧ Hid (K2 b H w wr)) (fun _ wr => s.size + 1 - (intOf ((wr.cell? ⟨b, 54, none⟩).getD undef)).toNat)
  case atStart => exact ⟨[], by simpa using hp, by simpa using hle, DigInv.start _ _ _ _, by simpa using HR, by simpa using HL, K2.refl _ _ _⟩
  case round =>
    obtain ⟨d, hd1, hd2, HI, HC, HS, HK⟩ := hrel
    obtain ⟨m, hm⟩ : ∃ m, m = p + d.length := ⟨_, rfl⟩
    obtain ⟨k, hk⟩ : ∃ k, k = ls.length + d.length := ⟨_, rfl⟩
    have HM : Hid (m = p + d.length) := hm
    have HKK : Hid (k = ls.length + d.length) := hk
    have c2 : wr.cell? ⟨b, 2, none⟩ = some (.int .i64 (G.n : Int)) := HC.out.wy.cn
    have c53 := HC.out.c53
    have c54 := HC.out.c54
    have f54 := HC.out.fz
    have c40 := HS.out.cn
    have z40 := HS.out.z 40 (by omega)
    rw [List.length_append, ← hk] at c40
    rw [← hm] at c54 hd1
    rw [← hk] at hd2
    clear hm hk
    by_cases hlt : m < s.size
    · have hlt2 : (m : Int) < (s.size : Int) := by omega
      by_cases h40 : k < 40
      · have h40' : (k : Int) < 40 := by omega
        have h256 : s[m].toNat < 256 := UInt8.toNat_lt _
        by_cases h1 : (s[m].toNat : Int) - 48 < 0
        · have HE : Hid (dig G.n (40 - ls.length - d.length) (tl s (p + d.length)) = []) := by show _ = _; rw [← HM.out]; exact dig_no hlt (by omega)
          go_wp2_with fail
          go_region
          all_goals
            go_wp2_with fail
            go_region
            all_goals
              go_wp2_with fail
              exact bodyPost_ret (v := .tuple #[]) (by simp [results, Try.results85, go_sem]) rfl ⟨rfl, listed_fin HC.out.drew.drew HS.out.drew.drew HK.out.drew.drew HI.out HE.out⟩
        · obtain ⟨x, hx⟩ : ∃ x, s[m].toNat = x + 48 := ⟨s[m].toNat - 48, by omega⟩
          by_cases h3 : (G.n : Int) ≤ (s[m].toNat : Int) - 48
          · have HE : Hid (dig G.n (40 - ls.length - d.length) (tl s (p + d.length)) = []) := by show _ = _; rw [← HM.out]; exact dig_no hlt (by omega)
            clear hx
            go_wp2_with fail
            go_region
            all_goals
              go_wp2_with fail
              go_region
              all_goals
                go_wp2_with fail
                exact bodyPost_ret (v := .tuple #[]) (by simp [results, Try.results85, go_sem]) rfl ⟨rfl, listed_fin HC.out.drew.drew HS.out.drew.drew HK.out.drew.drew HI.out HE.out⟩
          · have hx6 : x < G.n := by omega
            have HX : Hid (DigInv G.n (40 - ls.length) s p (d ++ [x])) := HI.out.step (by rw [← HM.out]; exact hlt) (by have := HKK.out; omega) (by rw [← hx]; simp only [HM.out]) hx6
            have ck := HS.out.c k (by omega)
            have zk := HS.out.z k (by omega)
            have k0 : (0 : Int) ≤ (k : Int) := by omega
            have hlk : (ls ++ d).length < 40 := by have := HKK.out; rw [List.length_append]; omega
            clear ck zk k0 z40
            go_wp2_with fail
            go_region
            all_goals
              go_wp2_with fail
              go_region
              all_goals
                go_wp2_with fail
                refine (add_is H fr x (ls ++ d) _ hlk (show Hid _ from HS.out.drew.drew)).mono ?_
                rintro e w1 ⟨rfl, hl1, hk1, hz1⟩
                have HS1 : Hid (Ls w1 H (ls ++ d ++ [x]) fr) := hl1
                have HC1 : Hid (Cr w1 b g cap G K f B ns s (p + d.length)) := HC.out.drew.drew.kqH hk1 h1x h2
                have HK1 : Hid (K2 b H w w1) := HK.out.drew.drew.kqH hk1
                have d54 : w1.cell? ⟨b, 54, none⟩ = some (.int .i64 (m : Int)) := by have := HC1.out.c54; rw [← HM.out] at this; exact this
                have e54 := HC1.out.fz
                clear hl1 hk1 hz1
                go_wp2_with fail
                go_roundw
                case rel =>
                  refine ⟨d ++ [x], by have := HM.out; simp; omega, by have := HKK.out; simp; omega, HX.out, ?_, ?_, ?_⟩
                  · exact ((HC1.out.place HM.out.symm).move).place (by have := HM.out; simp; omega)
                  · rw [← List.append_assoc]
                    exact HS1.out.setOther _ h1x
                  · exact HK1.out.setB _ _
                case measure =>
                  have e1 : (w1.setCell ⟨b, 54, none⟩ (Value.int IntKind.i64 (↑m + 1))).cell? ⟨b, 54, none⟩ = some (.int .i64 ((m : Int) + 1)) := cell_sameY d54
                  simp [intOf, c54, e1]
                  omega
      · have HE : Hid (dig G.n (40 - ls.length - d.length) (tl s (p + d.length)) = []) := by show _ = _; rw [show 40 - ls.length - d.length = 0 from by have := HKK.out; omega]; exact dig_full
        have h40' : ¬ (k : Int) < 40 := by omega
        go_wp2_with fail
        go_region
        all_goals
          go_wp2_with fail
          exact bodyPost_end (v := .tuple #[]) (by simp [results, Try.results85, go_sem]) rfl ⟨rfl, listed_fin HC.out.drew HS.out.drew HK.out.drew HI.out HE.out⟩
    · have HE : Hid (dig G.n (40 - ls.length - d.length) (tl s (p + d.length)) = []) := by show _ = _; rw [← HM.out]; exact dig_end hlt
      have hlt2 : ¬ (m : Int) < (s.size : Int) := by omega
      go_wp2_with fail
      go_region
      all_goals
        go_wp2_with fail
        exact bodyPost_end (v := .tuple #[]) (by simp [results, Try.results85, go_sem]) rfl ⟨rfl, listed_fin HC.out.drew HS.out.drew HK.out.drew HI.out HE.out⟩

end Go.Proofs.Ytcfbfdjmcabnkaa

