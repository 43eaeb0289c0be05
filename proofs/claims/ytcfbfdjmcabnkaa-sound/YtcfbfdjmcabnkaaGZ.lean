import Derived.Test.YtcfbfdjmcabnkaaGL
namespace Go.Proofs.Ytcfbfdjmcabnkaa
open Go.RowKit Fw
open Go.Deep (BT)
set_option linter.unusedVariables false

/-- from cell o of block tb on: a tree of nodes, which lie in block g -/
structure Tno (w : World) (tb o g cap : Nat) (ns : List Nd) : Prop where
  lt : tb < w.heap.size
  glt : g < w.heap.size
  c2 : w.cell? ⟨tb, o + 2, none⟩ = some (.slice (some ⟨g, 0, none⟩) ns.length cap)
  cs : ∀ i x, ns[i]? = some x → ∀ j u, (five x)[j]? = some u → w.cell? ⟨g, i * 5 + j, none⟩ = some u

theorem Tno.below {w w' : World} {tb o g cap : Nat} {ns : List Nd} (h : Tno w tb o g cap ns) (hb : Below w.heap.size w w') : Tno w' tb o g cap ns :=
  ⟨Nat.lt_of_lt_of_le h.lt hb.size, Nat.lt_of_lt_of_le h.glt hb.size, (hb.cell (p := ⟨tb, o + 2, none⟩) h.lt).trans h.c2, fun i x hx j u hu => (hb.cell (p := ⟨g, i * 5 + j, none⟩) h.glt).trans (h.cs i x hx j u hu)⟩

/-- a node's cells, as a walk over nodes reads them -/
structure Ato (w : World) (tb o g cap n i sg wy li ri k : Nat) : Prop where
  lt : tb < w.heap.size
  glt : g < w.heap.size
  hi : i < n
  c2 : w.cell? ⟨tb, o + 2, none⟩ = some (.slice (some ⟨g, 0, none⟩) n cap)
  n0 : w.cell? ⟨g, i * 5, none⟩ = some (.int .u8 (sg : Int))
  n1 : w.cell? ⟨g, i * 5 + 1, none⟩ = some (.int .u8 (wy : Int))
  n2 : w.cell? ⟨g, i * 5 + 2, none⟩ = some (.int .i64 (li : Int))
  n3 : w.cell? ⟨g, i * 5 + 3, none⟩ = some (.int .i64 (ri : Int))
  n4 : w.cell? ⟨g, i * 5 + 4, none⟩ = some (.int .i64 (k : Int))

theorem Tno.at {w : World} {tb o g cap : Nat} {ns : List Nd} (h : Tno w tb o g cap ns) {i sg wy li ri k : Nat} (hx : ns[i]? = some (sg, wy, li, ri, k)) : Ato w tb o g cap ns.length i sg wy li ri k :=
  ⟨h.lt, h.glt, (List.getElem?_eq_some_iff.1 hx).1, h.c2, h.cs i _ hx 0 _ rfl, h.cs i _ hx 1 _ rfl, h.cs i _ hx 2 _ rfl, h.cs i _ hx 3 _ rfl, h.cs i _ hx 4 _ rfl⟩

/-- a tree, and one that is being made beside it -/
structure Pqo (w : World) (tb o g cap : Nat) (ns : List Nd) (mb : Nat) (v : Value) (ms : List Nd) : Prop where
  t : Tno w tb o g cap ns
  m : Md w mb v ms
  s1 : tb ≠ mb
  s2 : g ≠ mb
  s3 : v.ownBlock ≠ some tb
  s4 : v.ownBlock ≠ some g

theorem Pqo.next {w w' : World} {tb o g cap mb : Nat} {ns ms ms' : List Nd} {v v' : Value} (h : Pqo w tb o g cap ns mb v ms) (hk : Kp mb v v' w w') (hm : Md w' mb v' ms') : Pqo w' tb o g cap ns mb v' ms' := by
  refine ⟨⟨Nat.lt_of_lt_of_le h.t.lt hk.size, Nat.lt_of_lt_of_le h.t.glt hk.size, ?_, ?_⟩, hm, h.s1, h.s2, hk.ne h.t.lt h.s3, hk.ne h.t.glt h.s4⟩
  · rw [hk.cell h.t.lt h.s1 h.s3]; exact h.t.c2
  · intro i x hx j u hu
    rw [hk.cell h.t.glt h.s2 h.s4]
    exact h.t.cs i x hx j u hu

theorem Pqo.alloc {w : World} {tb o g cap mb : Nat} {ns ms : List Nd} {v : Value} (h : Pqo w tb o g cap ns mb v ms) (ob : Obj) : Pqo (w.alloc ob) tb o g cap ns mb v ms :=
  ⟨h.t.below ((Below.refl _ _).alloc (Nat.le_refl _) _), h.m.alloc ob, h.s1, h.s2, h.s3, h.s4⟩
theorem Pqo.setOther {w : World} {tb o g cap mb : Nat} {ns ms : List Nd} {v : Value} (h : Pqo w tb o g cap ns mb v ms) {H oo : Nat} (u : Value) (h1 : H ≠ tb) (h2 : H ≠ g) (h3 : H ≠ mb) (h4 : v.ownBlock ≠ some H) : Pqo (w.setCell ⟨H, oo, none⟩ u) tb o g cap ns mb v ms := by
  refine ⟨⟨by simpa using h.t.lt, by simpa using h.t.glt, ?_, ?_⟩, h.m.setOther u h3 h4, h.s1, h.s2, h.s3, h.s4⟩
  · rw [cell_otherY (addr_nb h1)]; exact h.t.c2
  · intro i x hx j v hv
    rw [cell_otherY (addr_nb h2)]
    exact h.t.cs i x hx j v hv

/-- what pushing a node into another tree leaves, and that what was in order stays so -/
def PuOutC (t : Fm) (neg : Bool) (mb : Nat) (v : Value) (ns ms : List Nd) (w : World) (e : Ending) (w' : World) : Prop :=
  ∃ (k : Nat) (v' : Value) (ms' : List Nd), e = .returned (.int .i64 (k : Int)) ∧ Md w' mb v' (ms ++ ms') ∧ Kp mb v v' w w' ∧ Rep (ms ++ ms') (pushT t neg) k ∧ ms'.length ≤ (push t neg).length ∧ ((anyA ms' ↔ txtA (push t neg)) ∧ (Clo ns → Clo ms → Clo (ms ++ ms')))
theorem PuOutC.unbox {t : Fm} {neg : Bool} {mb : Nat} {v : Value} {ns ms : List Nd} {w w' : World} {o : Obj} {e : Ending} (h : PuOutC t neg mb v ns ms (w.alloc o) e w') : PuOutC t neg mb v ns ms w e w' := by
  obtain ⟨k, v', ms', h1, h2, h3, h4⟩ := h
  exact ⟨k, v', ms', h1, h2, h3.unbox, h4⟩

/-- what pushInto is to do with a node -/
def Gvo (t : Fm) (i tb o g cap : Nat) (ns : List Nd) (mb : Nat) (neg : Bool) : Prop := ∀ (W : World) (v : Value) (ms : List Nd), Hid (Pqo W tb o g cap ns mb v ms) → ms.length + (push t neg).length ≤ 999 →
  Calls Try.prog 39 #[.pointer (some ⟨tb, o, none⟩), .pointer (some ⟨mb, 0, none⟩), .int .i64 (i : Int), .bool neg] W fun e w' => PuOutC t neg mb v ns ms W e w'

set_option maxRecDepth 100000 in
set_option maxHeartbeats 1000000 in
theorem pio_not (t : Fm) (tb o g cap mb i li ri k : Nat) (ns ms : List Nd) (neg : Bool) (v : Value) (w : World) (hm : ms.length + (push t (!neg)).length ≤ 999) (HA : Hid (Ato w tb o g cap ns.length i 33 0 li ri k)) (HP : Hid (Pqo w tb o g cap ns mb v ms)) (HL : Hid (Gvo t li tb o g cap ns mb (!neg))) :
    Calls Try.prog 39 #[.pointer (some ⟨tb, o, none⟩), .pointer (some ⟨mb, 0, none⟩), .int .i64 (i : Int), .bool neg] w fun e w' => PuOutC t (!neg) mb v ns ms w e w' := by
  obtain ⟨lt, glt, hi, c2, n0, n1, n2, n3, n4⟩ := HA.out
  have hi2 : (i : Int) < (ns.length : Int) := by omega
  have HM : Hid (ms.length + (push t (!neg)).length ≤ 999) := hm
  clear hm
  go_enter Try.func39, Try.ntmps39
  go_wp2_with fail
  refine (HL.out _ v ms (HP.out.alloc _) HM.out).mono ?_
  intro e w1 h1
  obtain ⟨k', v', ms', rfl, h2⟩ := h1.unbox
  go_wp2_with fail
  go_ret
  exact ⟨k', v', ms', rfl, h2⟩

set_option maxRecDepth 100000 in
set_option maxHeartbeats 1000000 in
theorem pio_x (t : Fm) (tb o g cap mb i wy li ri k : Nat) (ns ms : List Nd) (neg : Bool) (v : Value) (w : World) (hwy : isSg wy) (hm : ms.length + (push t neg).length ≤ 999) (HA : Hid (Ato w tb o g cap ns.length i 88 wy li ri k)) (HP : Hid (Pqo w tb o g cap ns mb v ms)) (HL : Hid (Gvo t li tb o g cap ns mb neg)) :
    Calls Try.prog 39 #[.pointer (some ⟨tb, o, none⟩), .pointer (some ⟨mb, 0, none⟩), .int .i64 (i : Int), .bool neg] w fun e w' =>
      ∃ (p : Nat) (v' : Value) (ms' : List Nd), e = .returned (.int .i64 ((ms ++ ms').length : Int)) ∧ Md w' mb v' ((ms ++ ms') ++ [(88, tn neg wy, p, ri, k)]) ∧ Kp mb v v' w w' ∧ Rep (ms ++ ms') (pushT t neg) p ∧ ms'.length ≤ (push t neg).length ∧ ((anyA ms' ↔ txtA (push t neg)) ∧ (Clo ns → Clo ms → Clo (ms ++ ms'))) := by
  obtain ⟨lt, glt, hi, c2, n0, n1, n2, n3, n4⟩ := HA.out
  have hi2 : (i : Int) < (ns.length : Int) := by omega
  have HM : Hid (ms.length + (push t neg).length ≤ 999) := hm
  have HW : Hid (isSg wy) := hwy
  clear hm hwy
  cases neg with
  | false =>
    go_enter Try.func39, Try.ntmps39
    go_wp2_with fail
    refine (HL.out _ v ms (HP.out.alloc _) (by have := HM.out; omega)).mono ?_
    rintro e w1 ⟨p, v', ms', rfl, hmd, hkp, x1, x2, x3⟩
    obtain ⟨hbox, hvH, hHm⟩ := pi_box HP.out.m hkp
    obtain ⟨bl, k0, k1, k2, k3, k4, kz⟩ := nbx_new (by have := hkp.size; simp at this; omega) hbox
    have z2 := kz 2 (by omega)
    have HKP : Hid (Kp mb v v' w w1) := hkp.unbox
    have HMD : Hid (Md w1 mb v' (ms ++ ms')) := hmd
    have HH : Hid (v'.ownBlock ≠ some w.heap.size ∧ w.heap.size ≠ mb) := ⟨hvH, hHm⟩
    have hml : (ms ++ ms').length ≤ 1000 := by have := HM.out; rw [List.length_append]; omega
    have HX : Hid (Rep (ms ++ ms') (pushT t false) p ∧ ms'.length ≤ (push t false).length ∧ ((anyA ms' ↔ txtA (push t false)) ∧ (Clo ns → Clo ms → Clo (ms ++ ms')))) := ⟨x1, x2, x3⟩
    obtain ⟨qs, hqs⟩ : ∃ qs, qs = ms ++ ms' := ⟨_, rfl⟩
    have HQ : Hid (qs = ms ++ ms') := hqs
    rw [← hqs] at HMD hml
    clear hbox hvH hHm hkp hmd x1 x2 x3 kz hqs
    go_wp2_with fail
    refine (madd_any mb 88 wy p ri k v' qs _ hml (HMD.out.setOther _ HH.out.2 HH.out.1)).mono ?_
    rintro e w2 ⟨rfl, v2, hmd2, hkp2⟩
    have HKP2 : Hid (Kp mb v v2 w w2) := (HKP.out.setNew _ (Nat.le_refl _)).trans hkp2
    have HMD2 : Hid (Md w2 mb v2 (qs ++ [(88, wy, p, ri, k)])) := hmd2
    clear hmd2 hkp2
    go_wp2_with fail
    go_ret
    refine ⟨p, v2, ms', ?_, ?_, HKP2.out, HX.out.1, HX.out.2.1, HX.out.2.2⟩
    · rw [← HQ.out]; rfl
    · rw [← HQ.out]; exact HMD2.out
  | true =>
    go_enter Try.func39, Try.ntmps39
    go_wp2_with fail
    refine (HL.out _ v ms (HP.out.alloc _) (by have := HM.out; omega)).mono ?_
    rintro e w1 ⟨p, v', ms', rfl, hmd, hkp, x1, x2, x3⟩
    obtain ⟨hbox, hvH, hHm⟩ := pi_box HP.out.m hkp
    obtain ⟨bl, k0, k1, k2, k3, k4, kz⟩ := nbx_new (by have := hkp.size; simp at this; omega) hbox
    have z0 := kz 0 (by omega)
    have z1 := kz 1 (by omega)
    have z2 := kz 2 (by omega)
    have HKP : Hid (Kp mb v v' w w1) := hkp.unbox
    have HMD : Hid (Md w1 mb v' (ms ++ ms')) := hmd
    have HH : Hid (v'.ownBlock ≠ some w.heap.size ∧ w.heap.size ≠ mb) := ⟨hvH, hHm⟩
    have hml : (ms ++ ms').length ≤ 1000 := by have := HM.out; rw [List.length_append]; omega
    have HX : Hid (Rep (ms ++ ms') (pushT t true) p ∧ ms'.length ≤ (push t true).length ∧ ((anyA ms' ↔ txtA (push t true)) ∧ (Clo ns → Clo ms → Clo (ms ++ ms')))) := ⟨x1, x2, x3⟩
    obtain ⟨qs, hqs⟩ : ∃ qs, qs = ms ++ ms' := ⟨_, rfl⟩
    have HQ : Hid (qs = ms ++ ms') := hqs
    rw [← hqs] at HMD hml
    clear hbox hvH hHm hkp hmd x1 x2 x3 kz hqs
    go_wp2_with fail
    refine (opposite_88 _).mono ?_
    rintro e w2 ⟨rfl, rfl⟩
    go_wp2_with fail
    refine (opposite_any wy (.inl HW.out) _).mono ?_
    rintro e w2 ⟨rfl, rfl⟩
    go_wp2_with fail
    refine (madd_any mb 88 (opp wy) p ri k v' qs _ hml (((HMD.out.setOther _ HH.out.2 HH.out.1).setOther _ HH.out.2 HH.out.1).setOther _ HH.out.2 HH.out.1)).mono ?_
    rintro e w2 ⟨rfl, v2, hmd2, hkp2⟩
    have HKP2 : Hid (Kp mb v v2 w w2) := (((HKP.out.setNew _ (Nat.le_refl _)).setNew _ (Nat.le_refl _)).setNew _ (Nat.le_refl _)).trans hkp2
    have HMD2 : Hid (Md w2 mb v2 (qs ++ [(88, opp wy, p, ri, k)])) := hmd2
    clear hmd2 hkp2
    go_wp2_with fail
    go_ret
    refine ⟨p, v2, ms', ?_, ?_, HKP2.out, HX.out.1, HX.out.2.1, HX.out.2.2⟩
    · rw [← HQ.out]; rfl
    · rw [← HQ.out]; exact HMD2.out

set_option maxRecDepth 100000 in
set_option maxHeartbeats 4000000 in
theorem pio_two (l r : Fm) (tb o g cap mb i sg wy li ri k : Nat) (ns ms : List Nd) (neg : Bool) (v : Value) (w : World) (hsg : isSg sg) (hwy : isSg wy ∨ wy = 0) (b33 : ((sg : Int) == 33) = false) (b88 : ((sg : Int) == 88) = false) (hq : Sg2 sg)
    (hm : ms.length + (push l neg).length + (push r neg).length ≤ 999) (HA : Hid (Ato w tb o g cap ns.length i sg wy li ri k)) (HP : Hid (Pqo w tb o g cap ns mb v ms)) (HL : Hid (Gvo l li tb o g cap ns mb neg)) (HR : Hid (Gvo r ri tb o g cap ns mb neg)) :
    Calls Try.prog 39 #[.pointer (some ⟨tb, o, none⟩), .pointer (some ⟨mb, 0, none⟩), .int .i64 (i : Int), .bool neg] w fun e w' =>
      ∃ (p q : Nat) (v' : Value) (ms' ms'' : List Nd), e = .returned (.int .i64 (((ms ++ ms') ++ ms'').length : Int)) ∧ Md w' mb v' (((ms ++ ms') ++ ms'') ++ [(tn neg sg, tn neg wy, p, q, k)]) ∧ Kp mb v v' w w' ∧ Rep (ms ++ ms') (pushT l neg) p ∧ Rep ((ms ++ ms') ++ ms'') (pushT r neg) q ∧
        ms'.length ≤ (push l neg).length ∧ ms''.length ≤ (push r neg).length ∧ ((anyA ms' ↔ txtA (push l neg)) ∧ (Clo ns → Clo ms → Clo (ms ++ ms'))) ∧ ((anyA ms'' ↔ txtA (push r neg)) ∧ (Clo ns → Clo (ms ++ ms') → Clo ((ms ++ ms') ++ ms''))) := by
  obtain ⟨lt, glt, hi, c2, n0, n1, n2, n3, n4⟩ := HA.out
  have hi2 : (i : Int) < (ns.length : Int) := by omega
  have HM : Hid (ms.length + (push l neg).length + (push r neg).length ≤ 999) := hm
  have HS : Hid (isSg sg) := hsg
  have HW : Hid (isSg wy ∨ wy = 0) := hwy
  clear hm hwy hsg
  cases neg with
  | false =>
    rcases hq with hq | ⟨hq, hq2⟩ | ⟨hq, hq2, hq3⟩ | ⟨hq, hq2, hq3, hq4⟩
    all_goals
      go_enter Try.func39, Try.ntmps39
      go_wp2_with fail
      refine (HL.out _ v ms (HP.out.alloc _) (by have := HM.out; omega)).mono ?_
      rintro e w1 ⟨p, v', ms', rfl, hmd, hkp, x1, x2, x3⟩
      obtain ⟨hbox, hvH, hHm⟩ := pi_box HP.out.m hkp
      have hbx := nbx_new (by have := hkp.size; simp at this; omega) hbox
      have hpq := (HP.out.alloc _).next hkp hmd
      have HKP : Hid (Kp mb v v' w w1) := hkp.unbox
      have hHt : w.heap.size ≠ tb := by omega
      have hHg : w.heap.size ≠ g := by omega
      have HPQ : Hid (∀ u, Pqo (w1.setCell ⟨w.heap.size, 2, none⟩ u) tb o g cap ns mb v' (ms ++ ms')) := fun u => hpq.setOther u hHt hHg hHm hvH
      have HBX : Hid (∀ u, Nbx (w1.setCell ⟨w.heap.size, 2, none⟩ u) w.heap.size (.int .u8 (sg : Int)) (.int .u8 (wy : Int)) u (.int .i64 (ri : Int)) (.int .i64 (k : Int))) := fun u => hbx.set2 u
      have k2 := hbx.c2
      have k3 := hbx.c3
      have z2 := hbx.z 2 (by omega)
      have HH : Hid (v'.ownBlock ≠ some w.heap.size ∧ w.heap.size ≠ mb) := ⟨hvH, hHm⟩
      have HX : Hid (Rep (ms ++ ms') (pushT l false) p ∧ ms'.length ≤ (push l false).length ∧ ((anyA ms' ↔ txtA (push l false)) ∧ (Clo ns → Clo ms → Clo (ms ++ ms')))) := ⟨x1, x2, x3⟩
      clear hbox hvH hHm hkp hmd x1 x2 x3 hbx hpq
      go_wp2_with fail
      refine (HR.out _ v' (ms ++ ms') (HPQ.out _) (by have := HM.out; have := HX.out.2.1; rw [List.length_append]; omega)).mono ?_
      rintro e w2 ⟨q, v2, ms'', rfl, hmd, hkp, x1, x2, x3⟩
      obtain ⟨bl, k0, k1, k2, k3, k4, kz⟩ := (HBX.out _).kp hkp HH.out.2 HH.out.1
      have z3 := kz 3 (by omega)
      have HKP2 : Hid (Kp mb v v2 w w2) := (HKP.out.setNew _ (Nat.le_refl _)).trans hkp
      have HH2 : Hid (v2.ownBlock ≠ some w.heap.size) := hkp.ne (HBX.out _).lt HH.out.1
      have hml : ((ms ++ ms') ++ ms'').length ≤ 1000 := by have := HM.out; have := HX.out.2.1; rw [List.length_append, List.length_append]; omega
      have HX2 : Hid (Rep ((ms ++ ms') ++ ms'') (pushT r false) q ∧ ms''.length ≤ (push r false).length ∧ ((anyA ms'' ↔ txtA (push r false)) ∧ (Clo ns → Clo (ms ++ ms') → Clo ((ms ++ ms') ++ ms'')))) := ⟨x1, x2, x3⟩
      obtain ⟨qs, hqs⟩ : ∃ qs, qs = (ms ++ ms') ++ ms'' := ⟨_, rfl⟩
      have HQ : Hid (qs = (ms ++ ms') ++ ms'') := hqs
      rw [← hqs] at hmd hml
      have HMD : Hid (Md w2 mb v2 qs) := hmd
      clear hmd hkp x1 x2 x3 kz hqs
      go_wp2_with fail
      refine (madd_any mb sg wy p q k v2 qs _ hml (HMD.out.setOther _ HH.out.2 HH2.out)).mono ?_
      rintro e w3 ⟨rfl, v3, hmd3, hkp3⟩
      have HKP3 : Hid (Kp mb v v3 w w3) := (HKP2.out.setNew _ (Nat.le_refl _)).trans hkp3
      have HMD3 : Hid (Md w3 mb v3 (qs ++ [(sg, wy, p, q, k)])) := hmd3
      clear hmd3 hkp3
      go_wp2_with fail
      go_ret
      refine ⟨p, q, v3, ms', ms'', ?_, ?_, HKP3.out, HX.out.1, HX2.out.1, HX.out.2.1, HX2.out.2.1, HX.out.2.2, HX2.out.2.2⟩
      · rw [← HQ.out]; rfl
      · rw [← HQ.out]; exact HMD3.out
  | true =>
    rcases hq with hq | ⟨hq, hq2⟩ | ⟨hq, hq2, hq3⟩ | ⟨hq, hq2, hq3, hq4⟩
    all_goals
      go_enter Try.func39, Try.ntmps39
      go_wp2_with fail
      refine (HL.out _ v ms (HP.out.alloc _) (by have := HM.out; omega)).mono ?_
      rintro e w1 ⟨p, v', ms', rfl, hmd, hkp, x1, x2, x3⟩
      obtain ⟨hbox, hvH, hHm⟩ := pi_box HP.out.m hkp
      have hbx := nbx_new (by have := hkp.size; simp at this; omega) hbox
      have hpq := (HP.out.alloc _).next hkp hmd
      have HKP : Hid (Kp mb v v' w w1) := hkp.unbox
      have hHt : w.heap.size ≠ tb := by omega
      have hHg : w.heap.size ≠ g := by omega
      have HPQ : Hid (∀ u, Pqo (w1.setCell ⟨w.heap.size, 2, none⟩ u) tb o g cap ns mb v' (ms ++ ms')) := fun u => hpq.setOther u hHt hHg hHm hvH
      have HBX : Hid (∀ u, Nbx (w1.setCell ⟨w.heap.size, 2, none⟩ u) w.heap.size (.int .u8 (sg : Int)) (.int .u8 (wy : Int)) u (.int .i64 (ri : Int)) (.int .i64 (k : Int))) := fun u => hbx.set2 u
      have k2 := hbx.c2
      have k3 := hbx.c3
      have z2 := hbx.z 2 (by omega)
      have HH : Hid (v'.ownBlock ≠ some w.heap.size ∧ w.heap.size ≠ mb) := ⟨hvH, hHm⟩
      have HX : Hid (Rep (ms ++ ms') (pushT l true) p ∧ ms'.length ≤ (push l true).length ∧ ((anyA ms' ↔ txtA (push l true)) ∧ (Clo ns → Clo ms → Clo (ms ++ ms')))) := ⟨x1, x2, x3⟩
      clear hbox hvH hHm hkp hmd x1 x2 x3 hbx hpq
      go_wp2_with fail
      refine (HR.out _ v' (ms ++ ms') (HPQ.out _) (by have := HM.out; have := HX.out.2.1; rw [List.length_append]; omega)).mono ?_
      rintro e w2 ⟨q, v2, ms'', rfl, hmd, hkp, x1, x2, x3⟩
      obtain ⟨bl, k0, k1, k2, k3, k4, kz⟩ := (HBX.out _).kp hkp HH.out.2 HH.out.1
      have z0 := kz 0 (by omega)
      have z1 := kz 1 (by omega)
      have z3 := kz 3 (by omega)
      have HKP2 : Hid (Kp mb v v2 w w2) := (HKP.out.setNew _ (Nat.le_refl _)).trans hkp
      have HH2 : Hid (v2.ownBlock ≠ some w.heap.size) := hkp.ne (HBX.out _).lt HH.out.1
      have hml : ((ms ++ ms') ++ ms'').length ≤ 1000 := by have := HM.out; have := HX.out.2.1; rw [List.length_append, List.length_append]; omega
      have HX2 : Hid (Rep ((ms ++ ms') ++ ms'') (pushT r true) q ∧ ms''.length ≤ (push r true).length ∧ ((anyA ms'' ↔ txtA (push r true)) ∧ (Clo ns → Clo (ms ++ ms') → Clo ((ms ++ ms') ++ ms'')))) := ⟨x1, x2, x3⟩
      obtain ⟨qs, hqs⟩ : ∃ qs, qs = (ms ++ ms') ++ ms'' := ⟨_, rfl⟩
      have HQ : Hid (qs = (ms ++ ms') ++ ms'') := hqs
      rw [← hqs] at hmd hml
      have HMD : Hid (Md w2 mb v2 qs) := hmd
      clear hmd hkp x1 x2 x3 kz hqs
      go_wp2_with fail
      refine (opposite_any sg (.inl HS.out) _).mono ?_
      rintro e w3 ⟨rfl, rfl⟩
      go_wp2_with fail
      refine (opposite_any wy HW.out _).mono ?_
      rintro e w3 ⟨rfl, rfl⟩
      go_wp2_with fail
      refine (madd_any mb (opp sg) (opp wy) p q k v2 qs _ hml (((HMD.out.setOther _ HH.out.2 HH2.out).setOther _ HH.out.2 HH2.out).setOther _ HH.out.2 HH2.out)).mono ?_
      rintro e w3 ⟨rfl, v3, hmd3, hkp3⟩
      have HKP3 : Hid (Kp mb v v3 w w3) := (((HKP2.out.setNew _ (Nat.le_refl _)).setNew _ (Nat.le_refl _)).setNew _ (Nat.le_refl _)).trans hkp3
      have HMD3 : Hid (Md w3 mb v3 (qs ++ [(opp sg, opp wy, p, q, k)])) := hmd3
      clear hmd3 hkp3
      go_wp2_with fail
      go_ret
      refine ⟨p, q, v3, ms', ms'', ?_, ?_, HKP3.out, HX.out.1, HX2.out.1, HX.out.2.1, HX2.out.2.1, HX.out.2.2, HX2.out.2.2⟩
      · rw [← HQ.out]; rfl
      · rw [← HQ.out]; exact HMD3.out

set_option maxRecDepth 100000 in
set_option maxHeartbeats 1000000 in
theorem pio_leaf (tb o g cap mb i sg li ri k : Nat) (ns ms : List Nd) (neg : Bool) (v : Value) (w : World) (hc : isAtom sg = true) (hm : ms.length ≤ 998) (HA : Hid (Ato w tb o g cap ns.length i sg 0 li ri k)) (HP : Hid (Pqo w tb o g cap ns mb v ms)) :
    Calls Try.prog 39 #[.pointer (some ⟨tb, o, none⟩), .pointer (some ⟨mb, 0, none⟩), .int .i64 (i : Int), .bool neg] w fun e w' =>
      ∃ (v' : Value), e = .returned (.int .i64 (leafI ms.length neg : Int)) ∧ Md w' mb v' (ms ++ leafN sg li ri k ms.length neg) ∧ Kp mb v v' w w' := by
  obtain ⟨lt, glt, hi, c2, n0, n1, n2, n3, n4⟩ := HA.out
  have hi2 : (i : Int) < (ns.length : Int) := by omega
  have HM : Hid (ms.length ≤ 998) := hm
  simp only [isAtom, decide_eq_true_eq] at hc
  have b33 : ((sg : Int) == 33) = false := by rw [beq_eq_false_iff_ne]; omega
  have b38 : ((sg : Int) == 38) = false := by rw [beq_eq_false_iff_ne]; omega
  have b43 : ((sg : Int) == 43) = false := by rw [beq_eq_false_iff_ne]; omega
  have b88 : ((sg : Int) == 88) = false := by rw [beq_eq_false_iff_ne]; omega
  have b85 : ((sg : Int) == 85) = false := by rw [beq_eq_false_iff_ne]; omega
  have b82 : ((sg : Int) == 82) = false := by rw [beq_eq_false_iff_ne]; omega
  clear hm hc
  go_enter Try.func39, Try.ntmps39
  go_wp2_with fail
  refine (leaf_any mb sg li ri k ms neg v _ HM.out (HP.out.m.alloc _)).mono ?_
  rintro e w1 ⟨v', rfl, h2, h3⟩
  have HX : Hid (Md w1 mb v' (ms ++ leafN sg li ri k ms.length neg) ∧ Kp mb v v' w w1) := ⟨h2, h3.unbox⟩
  clear h2 h3
  go_wp2_with fail
  go_ret
  exact ⟨v', rfl, HX.out⟩

theorem Rep.lt_len {ns : List Nd} {t : Fm} {i : Nat} (h : Rep ns t i) (hg : good t) : i < ns.length := (h.lt hg).1

theorem pio_any : ∀ (t : Fm), good t → ∀ (i tb o g cap : Nat) (ns : List Nd) (mb : Nat) (neg : Bool), Rep ns t i → Gvo t i tb o g cap ns mb neg := by
  intro t
  induction t with
  | nil => intro h; exact absurd h (by simp [good])
  | node sg wy u l r ihl ihr =>
    intro h i tb o g cap ns mb neg hrep W v ms HPQ hm
    cases u
    obtain ⟨li, ri, hnd, hl, hr⟩ := hrep
    have hat := HPQ.out.t.at hnd
    rcases good_cases h with ⟨c, e, hc, hT⟩ | ⟨x, e, hx, hT⟩ | ⟨s, x, y, e, hs, hx, hy, hT⟩ | ⟨z, x, e, hv, hx, hT⟩ | ⟨s, z, x, y, e, hs, hv, hx, hy, hT⟩
    · injection e with e3 e0 _ e1 e2
      subst e3 e0 e1 e2
      have hc' := hc
      simp only [isAtom, decide_eq_true_eq] at hc'
      have hz : nst (BT.node sg 0 () BT.nil BT.nil) = 0 := rfl
      rw [push_atom hc] at hm
      refine (pio_leaf tb o g cap mb i sg li ri _ ns ms neg v W hc (by cases neg <;> simp at hm <;> omega) hat HPQ).mono ?_
      rintro e w' ⟨v', rfl, h1, h2⟩
      rw [hz] at h1
      refine ⟨_, v', _, rfl, h1, h2, ?_, ?_, ?_⟩
      · rw [pushT_atom hc]
        cases neg with
        | true =>
          rw [if_pos rfl]
          refine ⟨ms.length, 0, ?_, ⟨li, ri, ?_, trivial, trivial⟩, trivial⟩
          · show (ms ++ [(sg, 0, li, ri, 0), (33, 0, ms.length, 0, 0)])[ms.length + 1]? = _
            rw [List.getElem?_append_right (by omega)]
            simp [nst]
          · show (ms ++ [(sg, 0, li, ri, 0), (33, 0, ms.length, 0, 0)])[ms.length]? = _
            rw [List.getElem?_append_right (by omega)]
            simp [nst]
        | false =>
          rw [if_neg (by simp)]
          refine ⟨li, ri, ?_, trivial, trivial⟩
          show (ms ++ [(sg, 0, li, ri, 0)])[ms.length]? = _
          rw [List.getElem?_append_right (by omega)]
          simp [nst]
      · rw [push_atom hc]; cases neg <;> simp [leafN]
      · rw [push_atom hc]
        have hb : (b8 sg).toNat = sg := b8_nat (by omega)
        refine ⟨?_, fun hC hM => ?_⟩
        · cases neg with
          | true => simp [leafN, anyA, txtA, hb]; omega
          | false => simp [leafN, anyA, txtA, hb]; omega
        · have hz := (hC i _ hnd).2.1 hc
          simp only at hz
          have hq1 : Clo (ms ++ [(sg, 0, li, ri, 0)]) := hM.snoc ⟨.inl ⟨hc, hz.1, hz.2⟩, fun _ => hz, fun _ => hz.2⟩
          cases neg with
          | false => exact hq1
          | true =>
            have h2 := hq1.snoc (x := (33, 0, ms.length, 0, 0)) ⟨.inr ⟨by simp, by simp⟩, fun h => by simp [isAtom] at h, fun _ => rfl⟩
            simpa [leafN] using h2
    · injection e with e3 e0 _ e1 e2
      subst e3 e0 e1 e2
      rw [push_not] at hm
      refine (pio_not l tb o g cap mb i li ri _ ns ms neg v W hm hat HPQ (ihl hx li tb o g cap ns mb (!neg) hl)).mono ?_
      intro e w' h1
      unfold PuOutC
      rw [push_not, pushT_not]
      exact h1
    · injection e with e3 e0 _ e1 e2
      subst e3 e0 e1 e2
      have hp := push_bin (neg := neg) hs (l := l) (r := r) (wy := 0)
      rw [hp] at hm
      simp only [List.length_cons, List.length_append, List.length_nil] at hm
      obtain ⟨f1, f2, f3⟩ := sg2_of (sg := sg) (by omega)
      refine (pio_two l r tb o g cap mb i sg 0 li ri _ ns ms neg v W (by unfold isSg; omega) (.inr rfl) f1 f2 f3 (by omega) hat HPQ (ihl hx li tb o g cap ns mb neg hl) (ihr hy ri tb o g cap ns mb neg hr)).mono ?_
      rintro e w' ⟨p, q, v', ms', ms'', rfl, h1, h2, h3, h4, h5, h6, h7, h8⟩
      have hsg := tn_bin hs neg
      have hb : (b8 (tn neg sg)).toNat = tn neg sg := b8_nat (by omega)
      refine ⟨_, v', ms' ++ ms'' ++ [(tn neg sg, tn neg 0, p, q, nst (.node sg 0 () l r))], rfl, by simpa using h1, h2, ?_, ?_, ?_⟩
      · rw [pushT_bin hs]
        have := Rep.newT (sg := tn neg sg) (wy := 0) (k := nst (.node sg 0 () l r)) (h3.more ms'') h4 (by simp [nst, (pushT_is l hx neg).2.2, (pushT_is r hy neg).2.2])
        rw [tn_zero]
        simpa using this
      · rw [hp]; simp; omega
      · refine ⟨?_, fun hC hM => ?_⟩
        case refine_2 =>
          have h9 := (h8.2 hC (h7.2 hC hM)).snoc (x := (tn neg sg, tn neg 0, p, q, nst (.node sg 0 () l r))) ⟨.inr ⟨(h3.more ms'').lt_len (pushT_is l hx neg).2.1, h4.lt_len (pushT_is r hy neg).2.1⟩, fun h => by simp only [isAtom, decide_eq_true_eq] at h; omega, fun h => by simp only at h; omega⟩
          simpa using h9
        replace h7 := h7.1
        replace h8 := h8.1
        rw [hp, anyA_app, anyA_app, h7, h8, anyA_one, tn_zero, txtA_cons, txtA_app, txtA_cons, txtA_app, txtA_cons, hb]
        simp only [show ¬ (0 : Nat) = 65 from by omega, show ¬ (40 : UInt8).toNat = 65 from by decide, show ¬ (41 : UInt8).toNat = 65 from by decide, txtA_nil, false_or, or_false]
        constructor
        · rintro (h | h)
          · exact .inl h
          · exact .inr (.inr h)
        · rintro (h | h | h)
          · exact .inl h
          · omega
          · exact .inr h
    · injection e with e3 e0 _ e1 e2
      subst e3 e0 e1 e2
      have hp := push_x (neg := neg) (l := l) (wy := wy)
      rw [hp] at hm
      simp only [List.length_cons] at hm
      refine (pio_x l tb o g cap mb i wy li ri _ ns ms neg v W (by unfold isSg; omega) (by omega) hat HPQ (ihl hx li tb o g cap ns mb neg hl)).mono ?_
      rintro e w' ⟨p, v', ms', rfl, h1, h2, h3, h5, h7⟩
      have hwy := tn_wy hv neg
      have hb : (b8 (tn neg wy)).toNat = tn neg wy := b8_nat (by omega)
      refine ⟨_, v', ms' ++ [(88, tn neg wy, p, ri, nst (.node 88 wy () l .nil))], rfl, by simpa using h1, h2, ?_, ?_, ?_⟩
      · rw [pushT_x]
        have := Rep.newT (sg := 88) (wy := tn neg wy) (k := nst (.node 88 wy () l .nil)) (r := .nil) (ri := ri) h3 trivial (by simp only [nst, (pushT_is l hx neg).2.2]; rw [if_neg (by omega), if_neg (by omega)])
        simpa using this
      · rw [hp]; simp; omega
      · refine ⟨?_, fun hC hM => ?_⟩
        case refine_2 =>
          have hz : ri = 0 := (hC i _ hnd).2.2 rfl
          have h9 := (h7.2 hC hM).snoc (x := (88, tn neg wy, p, ri, nst (.node 88 wy () l .nil))) ⟨.inr ⟨h3.lt_len (pushT_is l hx neg).2.1, by have := h3.lt_len (pushT_is l hx neg).2.1; show ri < _; omega⟩, fun h => by simp [isAtom] at h, fun _ => hz⟩
          simpa using h9
        replace h7 := h7.1
        rw [hp, anyA_app, h7, anyA_one, txtA_cons, txtA_cons, hb]
        simp only [show ¬ (88 : UInt8).toNat = 65 from by decide, false_or]
        exact Or.comm
    · injection e with e3 e0 _ e1 e2
      subst e3 e0 e1 e2
      have hp := push_way (neg := neg) hs (l := l) (r := r) (wy := wy)
      rw [hp] at hm
      simp only [List.length_cons, List.length_append, List.length_nil] at hm
      obtain ⟨f1, f2, f3⟩ := sg2_of (sg := sg) (by omega)
      refine (pio_two l r tb o g cap mb i sg wy li ri _ ns ms neg v W (by unfold isSg; omega) (.inl (by unfold isSg; omega)) f1 f2 f3 (by omega) hat HPQ (ihl hx li tb o g cap ns mb neg hl) (ihr hy ri tb o g cap ns mb neg hr)).mono ?_
      rintro e w' ⟨p, q, v', ms', ms'', rfl, h1, h2, h3, h4, h5, h6, h7, h8⟩
      have hsg := tn_ur hs neg
      have hwy := tn_wy hv neg
      have hb : (b8 (tn neg sg)).toNat = tn neg sg := b8_nat (by omega)
      have hb2 : (b8 (tn neg wy)).toNat = tn neg wy := b8_nat (by omega)
      refine ⟨_, v', ms' ++ ms'' ++ [(tn neg sg, tn neg wy, p, q, nst (.node sg wy () l r))], rfl, by simpa using h1, h2, ?_, ?_, ?_⟩
      · rw [pushT_way hs]
        have := Rep.newT (sg := tn neg sg) (wy := tn neg wy) (k := nst (.node sg wy () l r)) (h3.more ms'') h4 (by simp only [nst, (pushT_is l hx neg).2.2, (pushT_is r hy neg).2.2]; rw [if_neg (by omega), if_neg (by omega)])
        simpa using this
      · rw [hp]; simp; omega
      · refine ⟨?_, fun hC hM => ?_⟩
        case refine_2 =>
          have h9 := (h8.2 hC (h7.2 hC hM)).snoc (x := (tn neg sg, tn neg wy, p, q, nst (.node sg wy () l r))) ⟨.inr ⟨(h3.more ms'').lt_len (pushT_is l hx neg).2.1, h4.lt_len (pushT_is r hy neg).2.1⟩, fun h => by simp only [isAtom, decide_eq_true_eq] at h; omega, fun h => by simp only at h; omega⟩
          simpa using h9
        replace h7 := h7.1
        replace h8 := h8.1
        rw [hp, anyA_app, anyA_app, h7, h8, anyA_one, txtA_cons, txtA_cons, txtA_app, txtA_cons, txtA_app, txtA_cons, hb, hb2]
        simp only [show ¬ (91 : UInt8).toNat = 65 from by decide, show ¬ (93 : UInt8).toNat = 65 from by decide, txtA_nil, false_or, or_false]
        constructor
        · rintro ((h | h) | h)
          · exact .inr (.inl h)
          · exact .inr (.inr (.inr h))
          · exact .inl h
        · rintro (h | h | h | h)
          · exact .inr h
          · exact .inl (.inl h)
          · omega
          · exact .inl (.inr h)

set_option maxRecDepth 100000 in
set_option maxHeartbeats 1000000 in
/-- the program's pushing of a whole tree -/
theorem pushedPo (t : Fm) (ht : good t) (i tb o g cap : Nat) (ns : List Nd) (w : World) (hl : (txt t).length ≤ 60) (HT : Hid (Tno w tb o g cap ns)) (HR : Hid (Rep ns t i)) (c3 : w.cell? ⟨tb, o + 3, none⟩ = some (.int .i64 (i : Int))) :
    Calls Try.prog 30 #[.pointer (some ⟨tb, o, none⟩)] w fun e w' => Below w.heap.size w w' ∧ ∃ (v : Value) (ms : List Nd) (k : Nat), e = .returned (.agg #[.int .i64 0, .int .i64 0, v, .int .i64 (k : Int)]) ∧
      w'.ownsRow (w.heap.size + 2) 84 5 v ms.length (flatN ms) ∧ Rep ms (pushT t false) k ∧ ms.length ≤ (push t false).length ∧ (anyA ms ↔ txtA (push t false)) ∧ (Clo ns → Clo ms) := by
  have hpl := push_len t ht false
  have lt := HT.out.lt
  have glt := HT.out.glt
  have HG : Hid (good t) := ht
  go_enter Try.func30, Try.ntmps30
  go_wp2_with fail
  refine (pio_any t HG.out i tb o g cap ns (w.heap.size + 1) false HR.out _ (.slice none 0 0) [] ⟨HT.out.below (((Below.refl _ _).alloc (Nat.le_refl _) _).alloc (by simp) _), md_new2 w _, by omega, by omega, by simp [Value.ownBlock], by simp [Value.ownBlock]⟩ (by simp; omega)).mono ?_
  rintro e w1 ⟨k, v, ms, rfl, hmd, hkp, hrep, hlen, hA⟩
  rw [List.nil_append] at hmd hrep hA
  replace hA : (anyA ms ↔ txtA (push t false)) ∧ (Clo ns → Clo ms) := ⟨hA.1, fun h => hA.2 h clo_nil⟩
  have hb1 : Below (w.heap.size + 1) _ w1 := kp_below hkp (by simp)
  have HB1 : Hid (Below w.heap.size w w1) := (((Below.refl _ _).alloc (Nat.le_refl _) _).alloc (by simp) _).trans (hb1.mono (by omega))
  have r0 : w1.cell? ⟨w.heap.size, 0, none⟩ = some (.int .i64 0) := by rw [hb1.cell (p := ⟨w.heap.size, 0, none⟩) (by simp)]; simp
  have r1 : w1.cell? ⟨w.heap.size, 1, none⟩ = some (.int .i64 0) := by rw [hb1.cell (p := ⟨w.heap.size, 1, none⟩) (by simp)]; simp
  have r2 : w1.cell? ⟨w.heap.size, 2, none⟩ = some (.slice none 0 0) := by rw [hb1.cell (p := ⟨w.heap.size, 2, none⟩) (by simp)]; simp
  have r3 : w1.cell? ⟨w.heap.size, 3, none⟩ = some (.int .i64 0) := by rw [hb1.cell (p := ⟨w.heap.size, 3, none⟩) (by simp)]; simp
  have rz : ∀ o, w1.frozen? ⟨w.heap.size, o, none⟩ = false := by
    intro o
    rw [hb1.frozen (p := ⟨w.heap.size, o, none⟩) (by simp)]
    exact frozen_of_row _ _ _ _ _ (heap_alloc2_old w _ _)
  have z0 := rz 0
  have z1 := rz 1
  have z2 := rz 2
  have z3 := rz 3
  obtain ⟨mlt, m0, m1, m2, m3, mz, mown⟩ := hmd
  have y3 := mz 3 (by omega)
  have HOWN : Hid (w1.ownsRow (w.heap.size + 1 + 1) 84 5 v ms.length (flatN ms)) := mown
  have HX : Hid (Rep ms (pushT t false) k ∧ ms.length ≤ (push t false).length ∧ (anyA ms ↔ txtA (push t false)) ∧ (Clo ns → Clo ms)) := ⟨hrep, hlen, hA⟩
  have HF : Hid (∃ a cap, v = .slice a ms.length cap) := by
    rcases mown.2 with ⟨h1, h2⟩ | ⟨g, cap, cur, h1, _⟩
    · exact ⟨none, 0, by rw [h1, h2]⟩
    · exact ⟨_, _, h1⟩
  clear hb1 hkp rz mz mown hrep hlen hA
  obtain ⟨a, cap2, rfl⟩ := HF.out
  go_wp2_with fail
  exact bodyPost_ret (v := .agg #[.int .i64 0, .int .i64 0, .slice a ms.length cap2, .int .i64 (k : Int)]) (by simp [results, Try.results30, go_sem, r0, r1, r2, r3]) rfl ⟨set4 (HB1.out.setCell (p := ⟨w.heap.size + 1, 3, none⟩) (by simp) _), _, ms, k, rfl, own4 (ownsRow_setCell_below HOWN.out (by simp) _), HX.out⟩

end Go.Proofs.Ytcfbfdjmcabnkaa

