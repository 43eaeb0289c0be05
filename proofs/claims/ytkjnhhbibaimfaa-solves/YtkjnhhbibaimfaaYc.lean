import Derived.Test.YtkjnhhbibaimfaaYb
import Derived.Test.YtkjnhhbibaimfaaXd
namespace Go.Proofs.Ytkjnhhbibaimfaa
open Go.RowKit Fw
open Go.Deep (BT)
set_option linter.unusedVariables false

/-- node i of the list is the formula -/
def Rep (ns : List Nd) : Fm → Nat → Prop
  | .nil, _ => True
  | .node sg wy u l r, i => ∃ li ri, ns[i]? = some (sg, wy, li, ri, nst (.node sg wy u l r)) ∧ Rep ns l li ∧ Rep ns r ri

theorem Rep.more {ns : List Nd} (ms : List Nd) : ∀ {t : Fm} {i : Nat}, Rep ns t i → Rep (ns ++ ms) t i := by
  intro t
  induction t with
  | nil => intro i _; trivial
  | node sg wy u l r ihl ihr =>
    intro i h
    obtain ⟨li, ri, h1, h2, h3⟩ := h
    refine ⟨li, ri, ?_, ihl h2, ihr h3⟩
    rw [List.getElem?_append_left (List.getElem?_eq_some_iff.1 h1).1]
    exact h1

theorem Rep.lt {ns : List Nd} {t : Fm} {i : Nat} (h : Rep ns t i) (hg : good t) : i < ns.length ∧ ∃ x : Nd, ns[i]? = some x ∧ x.2.2.2.2 = nst t := by
  cases t with
  | nil => exact absurd hg (by simp [good])
  | node sg wy u l r =>
    obtain ⟨li, ri, h1, _, _⟩ := h
    exact ⟨(List.getElem?_eq_some_iff.1 h1).1, _, h1, rfl⟩

/-- the parts of a node lie ahead of it -/
def Clo (ns : List Nd) : Prop := ∀ (k : Nat) (x : Nd), ns[k]? = some x → (isAtom x.1 = true ∧ x.2.2.1 = 0 ∧ x.2.2.2.1 = 0) ∨ (x.2.2.1 < k ∧ x.2.2.2.1 < k)
theorem clo_nil : Clo [] := fun k x h => by simp at h
theorem Clo.snoc {ns : List Nd} (h : Clo ns) {x : Nd} (hx : (isAtom x.1 = true ∧ x.2.2.1 = 0 ∧ x.2.2.2.1 = 0) ∨ (x.2.2.1 < ns.length ∧ x.2.2.2.1 < ns.length)) : Clo (ns ++ [x]) := by
  intro k y hy
  by_cases hk : k < ns.length
  · rw [List.getElem?_append_left hk] at hy
    exact h k y hy
  · have hl := (List.getElem?_eq_some_iff.1 hy).1
    simp at hl
    obtain rfl : k = ns.length := by omega
    rw [List.getElem?_append_right (Nat.le_refl _)] at hy
    simp at hy
    subst hy
    exact hx
/-- a node of the list is the formula; and what was in order stays so -/
def RepC (ns0 ns : List Nd) (t : Fm) (i : Nat) : Prop := Rep ns t i ∧ (Clo ns0 → Clo ns)

theorem own_set {w : World} {base : Nat} {e : TypeId} {size : Nat} {v : Value} {n : Nat} {xs : List Value} (h : w.ownsRow base e size v n xs) {a : Addr} (ha : v.ownBlock ≠ some a.block) (u : Value) : (w.setCell a u).ownsRow base e size v n xs := by
  obtain ⟨h1, h2⟩ := h
  refine ⟨h1, ?_⟩
  rcases h2 with h2 | ⟨g, cap, cur, hv, hg, hh, r⟩
  · exact Or.inl h2
  · have hne : g ≠ a.block := by
      intro e
      apply ha
      rw [hv, ← e]
      rfl
    exact Or.inr ⟨g, cap, cur, hv, hg, by rw [Below.heap_setCell _ _ _ _ hne]; exact hh, r⟩

theorem addr_nb {b c o p : Nat} (h : b ≠ c) : (⟨b, o, none⟩ : Addr) ≠ ⟨c, p, none⟩ := by
  intro e
  injection e
  contradiction

theorem Rd.setOther {w : World} {b p : Nat} {s : ByteArray} {v : Value} {ns : List Nd} (h : Rd w b s p v ns) {H o : Nat} (u : Value) (h1 : H ≠ b) (h2 : v.ownBlock ≠ some H) : Rd (w.setCell ⟨H, o, none⟩ u) b s p v ns := by
  refine ⟨by simpa using h.lt, ?_, ?_, ?_, ?_, own_set h.own h2 u⟩
  · rw [cell_otherY (addr_nb h1)]; exact h.c0
  · rw [cell_otherY (addr_nb h1)]; exact h.c1
  · rw [cell_otherY (addr_nb h1)]; exact h.c2
  · intro j hj
    rw [World.frozen?_setCell]
    exact h.fz j hj

theorem Kp.setNew {b : Nat} {v v' : Value} {w w' : World} (h : Kp b v v' w w') {H o : Nat} (u : Value) (hH : w.heap.size ≤ H) : Kp b v v' w (w'.setCell ⟨H, o, none⟩ u) :=
  ⟨h.os, h.tape, h.output, by simpa using h.size, fun k h1 h2 h3 => (Below.heap_setCell _ _ _ _ (by simp; omega)).trans (h.keep k h1 h2 h3), h.at'⟩

/-- what reading a part leaves: x is what reading comes to -/
def Out (x : Bool × List UInt8 × Fm) (b : Nat) (s : ByteArray) (d : Nat) (v : Value) (ns : List Nd) (w : World) (e : Ending) (w' : World) : Prop :=
  ∃ v' ns', Rd w' b s (s.size - x.2.1.length) v' (ns ++ ns') ∧ Kp b v v' w w' ∧ (ns ++ ns').length + d ≤ s.size - x.2.1.length ∧
    ((x.1 = true ∧ ∃ i : Nat, e = .returned (.tuple #[.int .i64 (i : Int), .bool true]) ∧ RepC ns (ns ++ ns') x.2.2 i) ∨ (x.1 = false ∧ e = .returned (.tuple #[.int .i64 0, .bool false])))

/-- what readPart is to do, with n for fuel -/
def PartAt (n : Nat) : Prop := ∀ (b p d : Nat) (s : ByteArray) (v : Value) (ns : List Nd) (w : World), s.size ≤ 30 → p ≤ s.size → ns.length + d ≤ p → Hid (Rd w b s p v ns) → s.size - p < n →
  Calls Try.prog 49 #[.pointer (some ⟨b, 0, none⟩)] w fun e w' => Out (pt n (tl s p)) b s d v ns w e w'

theorem tl_len_pt (s : ByteArray) (p : Nat) (hp : p ≤ s.size) : s.size - (tl s p).length = p := by rw [tl_length]; omega

/-- what is left behind a part is what is left from some place on -/
theorem rest_tl {n : Nat} {s : ByteArray} {p : Nat} (hp : p ≤ s.size) (h : (pt n (tl s p)).1 = true) : p < s.size - (pt n (tl s p)).2.1.length ∧ (pt n (tl s p)).2.1 = tl s (s.size - (pt n (tl s p)).2.1.length) ∧ (pt n (tl s p)).2.1.length ≤ s.size := by
  obtain ⟨e, g⟩ := pt_sound n (tl s p) h
  have hl := rest_le (pt_sound n) h
  rw [tl_length] at hl
  refine ⟨by omega, ?_, by omega⟩
  generalize pt n (tl s p) = x at *
  have e2 : s.data.toList = (s.data.toList.take p ++ txt x.2.2) ++ x.2.1 := by
    rw [List.append_assoc, ← e]
    exact (List.take_append_drop p _).symm
  have hsz : s.size = (s.data.toList.take p ++ txt x.2.2).length + x.2.1.length := by
    rw [← List.length_append, ← e2]
    show s.data.size = _
    rw [Array.length_toList]
  unfold tl
  rw [show s.size - x.2.1.length = (s.data.toList.take p ++ txt x.2.2).length from by omega]
  generalize s.data.toList.take p ++ txt x.2.2 = y at e2 ⊢
  rw [e2, List.drop_left]

theorem greater_any (a b : Nat) (w : World) : Calls Try.prog 98 #[.int .i64 (a : Int), .int .i64 (b : Int)] w fun e w' => e = .returned (.int .i64 ((max a b : Nat) : Int)) ∧ w' = w := by
  by_cases h : (b : Int) < (a : Int)
  · go_enter Try.func98, Try.ntmps98
    go_wp2
    go_ret
    exact ⟨ret_int (by omega), rfl⟩
  · go_enter Try.func98, Try.ntmps98
    go_wp2
    go_ret
    exact ⟨ret_int (by omega), rfl⟩

/-- a node's nest, in memory -/
theorem Rd.nest {w : World} {b p : Nat} {s : ByteArray} {v : Value} {ns : List Nd} (h : Rd w b s p v ns) {t : Fm} {i : Nat} (hr : Rep ns t i) (hg : good t) :
    ∃ g cap, v = .slice (some ⟨g, 0, none⟩) ns.length cap ∧ i < ns.length ∧ b < g ∧ g < w.heap.size ∧ w.cell? ⟨g, i * 5 + 4, none⟩ = some (.int .i64 ((nst t : Nat) : Int)) := by
  obtain ⟨hi, x, hx, hn⟩ := hr.lt hg
  obtain ⟨g, cap, hv, hb, hlt⟩ := h.own.form (by omega)
  have hc := h.own.cells (g := g) (by rw [hv]; rfl) (i * 5 + 4) (.int .i64 ((nst t : Nat) : Int)) (by rw [flatN_get x ns i 4 hx (by omega), ← hn]; rfl)
  exact ⟨g, cap, hv, hi, by omega, hlt, by simpa [Addr.add] using hc⟩

theorem box_at {w w1 : World} {b p : Nat} {s : ByteArray} {v v' : Value} {ns : List Nd} {C : Array Value} {t : TypeId} (hr : Rd w b s p v ns) (hk : Kp b v v' (w.alloc (.cells C t)) w1) : w1.heap[w.heap.size]? = some (.cells C t) := by
  rw [hk.keep w.heap.size (by simp) (by have := hr.lt; omega) (fun e => by have := (hr.own.lt _ e).2; omega)]
  exact heap_alloc_new w _

theorem Kp.unbox {w w1 : World} {b : Nat} {v v' : Value} {o : Obj} (hk : Kp b v v' (w.alloc o) w1) : Kp b v v' w w1 := ((Kp.refl b v w).alloc o).trans hk

/-- the nodes' row is not the box -/
theorem row_ne {w w1 : World} {b p g len cap : Nat} {s : ByteArray} {v v' : Value} {ns : List Nd} {o : Obj} (hr : Rd w b s p v ns) (hk : Kp b v v' (w.alloc o) w1) (hv : v' = .slice (some ⟨g, 0, none⟩) len cap) : g ≠ w.heap.size := by
  have hg : v'.ownBlock = some g := by rw [hv]; rfl
  rcases hk.at' with e | ⟨g2, e, h2⟩
  · have := (hr.own.lt g (by rw [← e]; exact hg)).2
    omega
  · rw [hg] at e
    injection e with e
    simp at h2
    omega

theorem one_yes {sg wy : Nat} {x : Bool × List UInt8 × Fm} (h : x.1 = true) : one sg wy x = (true, x.2.1, .node sg wy () x.2.2 .nil) := by simp [one, h]
theorem one_no {sg wy : Nat} {x : Bool × List UInt8 × Fm} (h : x.1 = false) : one sg wy x = (false, x.2.1, .nil) := by simp [one, h]

theorem Rep.new {ns : List Nd} {sg wy li ri k : Nat} {l r : Fm} (hl : Rep ns l li) (hr : Rep ns r ri) (hk : k = max (nst l) (nst r)) :
    Rep (ns ++ [(sg, wy, li, ri, k + (if wy = 0 then 0 else 1))]) (.node sg wy () l r) ns.length := by
  refine ⟨li, ri, ?_, hl.more _, hr.more _⟩
  rw [List.getElem?_append_right (Nat.le_refl _)]
  simp [nst, hk, Nat.add_comm]

set_option maxRecDepth 100000 in
set_option maxHeartbeats 3200000 in
theorem readOne_any (n : Nat) (hP : PartAt n) (sg wy b p d : Nat) (s : ByteArray) (v : Value) (ns : List Nd) (w : World) (hs : s.size ≤ 30) (hp : p ≤ s.size) (hd : ns.length + (d + 1) ≤ p) (HR : Hid (Rd w b s p v ns)) (hn : s.size - p < n) :
    Calls Try.prog 69 #[.pointer (some ⟨b, 0, none⟩), .agg #[.int .u8 (sg : Int), .int .u8 (wy : Int), .int .i64 0, .int .i64 0, .int .i64 0]] w fun e w' => Out (one sg wy (pt n (tl s p))) b s d v ns w e w' := by
  go_enter Try.func69, Try.ntmps69
  go_wp2_with fail
  refine (hP b p (d + 1) s v ns _ hs hp hd (HR.out.alloc _) hn).mono ?_
  rintro e w1 ⟨v', ns', hrd, hkp, hlen, ⟨hx, i, rfl, hrep, hclo⟩ | ⟨hx, rfl⟩⟩
  · have HX : Hid (one sg wy (pt n (tl s p)) = (true, (pt n (tl s p)).2.1, .node sg wy () (pt n (tl s p)).2.2 .nil)) := one_yes hx
    have hsd := pt_sound n (tl s p) hx
    have hbox := box_at HR.out hkp
    have hle := nst_le (pt n (tl s p)).2.2 hsd.2
    have hle2 : nst (pt n (tl s p)).2.2 ≤ 30 := by
      have e1 := congrArg List.length hsd.1
      rw [List.length_append, tl_length] at e1
      omega
    obtain ⟨g, cap, hv, hi, hbg, hgl, hcell⟩ := hrd.nest hrep hsd.2
    have hgH := row_ne HR.out hkp hv
    obtain ⟨t, ht⟩ : ∃ t, t = (pt n (tl s p)).2.2 := ⟨_, rfl⟩
    obtain ⟨q, hq⟩ : ∃ q, q = (pt n (tl s p)).2.1 := ⟨_, rfl⟩
    rw [← ht] at hcell hrep HX hle2
    rw [← hq] at HX hrd hlen
    obtain ⟨ms, hms⟩ : ∃ ms, ms = ns ++ ns' := ⟨_, rfl⟩
    rw [← hms] at hrd hlen hrep hv hi hclo
    have HCLO : Hid (Clo ns → Clo ms) := hclo
    clear hclo
    have HMS : Hid (ms = ns ++ ns') := hms
    have HRD : Hid (Rd w1 b s (s.size - q.length) v' ms) := hrd
    have HKP : Hid (Kp b v v' w w1) := hkp.unbox
    have HREP : Hid (Rep ms t i) := hrep
    have hbH : b ≠ w.heap.size := by have := HR.out.lt; omega
    have hHb : w.heap.size ≠ b := by have := HR.out.lt; omega
    have hHg : w.heap.size ≠ g := Ne.symm hgH
    have hvH : v'.ownBlock ≠ some w.heap.size := by rw [hv]; intro e; injection e with e; exact hgH e
    have HVH : Hid (v'.ownBlock ≠ some w.heap.size) := hvH
    have k0 : w1.cell? ⟨w.heap.size, 0, none⟩ = some (.int .u8 (sg : Int)) := by rw [cell_of_row _ _ _ _ _ _ hbox]; rfl
    have k1 : w1.cell? ⟨w.heap.size, 1, none⟩ = some (.int .u8 (wy : Int)) := by rw [cell_of_row _ _ _ _ _ _ hbox]; rfl
    have k2 : w1.cell? ⟨w.heap.size, 2, none⟩ = some (.int .i64 0) := by rw [cell_of_row _ _ _ _ _ _ hbox]; rfl
    have k3 : w1.cell? ⟨w.heap.size, 3, none⟩ = some (.int .i64 0) := by rw [cell_of_row _ _ _ _ _ _ hbox]; rfl
    have k4 : w1.cell? ⟨w.heap.size, 4, none⟩ = some (.int .i64 0) := by rw [cell_of_row _ _ _ _ _ _ hbox]; rfl
    have z2 : w1.frozen? ⟨w.heap.size, 2, none⟩ = false := frozen_of_row _ _ _ _ _ hbox
    have z4 : w1.frozen? ⟨w.heap.size, 4, none⟩ = false := frozen_of_row _ _ _ _ _ hbox
    have c2 := hrd.c2
    rw [hv] at c2
    have hi2 : (i : Int) < (ms.length : Int) := by omega
    have hml : ms.length ≤ 1000 := by omega
    clear hx hrd hkp hbox hrep ht hq hsd hle hvH hms
    go_wp2_with fail
    refine (add_any b (s.size - q.length) sg wy i 0 (nst t) s v' ms _ hml (by omega) ((HRD.out.setOther _ hHb HVH.out).setOther _ hHb HVH.out)).mono ?_
    rintro e w2 ⟨rfl, v2, hrd2, hkp2⟩
    have HRD2 : Hid (Rd w2 b s (s.size - q.length) v2 (ms ++ [(sg, wy, i, 0, nst t + if wy = 0 then 0 else 1)])) := hrd2
    have HKP2 : Hid (Kp b v v2 w w2) := ((HKP.out.setNew _ (Nat.le_refl _)).setNew _ (Nat.le_refl _)).trans hkp2
    clear hrd2 hkp2
    go_wp2_with fail
    go_ret2
    show Out _ b s d v ns w _ _
    rw [HX.out]
    refine ⟨v2, ns' ++ [(sg, wy, i, 0, nst t + if wy = 0 then 0 else 1)], ?_, HKP2.out, ?_, .inl ⟨rfl, ms.length, rfl, ?_⟩⟩
    · rw [← List.append_assoc, ← HMS.out]; exact HRD2.out
    · rw [← List.append_assoc, ← HMS.out]; simp; omega
    · rw [← List.append_assoc, ← HMS.out]; exact ⟨HREP.out.new (l := t) (r := .nil) trivial (by simp [nst]), fun h => (HCLO.out h).snoc (.inr ⟨hi, by show 0 < _; omega⟩)⟩
  · have HX : Hid (one sg wy (pt n (tl s p)) = (false, (pt n (tl s p)).2.1, .nil)) := one_no hx
    have HRD : Hid (Rd w1 b s (s.size - (pt n (tl s p)).2.1.length) v' (ns ++ ns')) := hrd
    have HKP : Hid (Kp b v v' w w1) := hkp.unbox
    clear hx hrd hkp
    go_wp2_with fail
    go_ret2
    show Out _ b s d v ns w _ _
    rw [HX.out]
    exact ⟨v', ns', HRD.out, HKP.out, by show _ ≤ s.size - (pt n (tl s p)).2.1.length; omega, .inr ⟨rfl, rfl⟩⟩

end Go.Proofs.Ytkjnhhbibaimfaa
