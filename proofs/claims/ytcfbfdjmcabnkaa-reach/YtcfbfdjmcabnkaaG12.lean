import Derived.Laws.MakeOwn
import Derived.Test.YtcfbfdjmcabnkaaG11
import Derived.Test.YtcfbfdjmcabnkaaGL
import Derived.Test.YtcfbfdjmcabnkaaG9
import Derived.Test.YtcfbfdjmcabnkaaGW
namespace Go.Proofs.Ytcfbfdjmcabnkaa
open Go.RowKit Fw
open Go.Deep (BT)
set_option linter.unusedVariables false

/-- a row of sets -/
structure Tab (w : World) (gs n : Nat) (F : Nat → Nat → Bool) : Prop where
  lt : gs < w.heap.size
  c : ∀ i j, i < n → j < 6 → w.cell? ⟨gs, i * 6 + j, none⟩ = some (.bool (F i j))
  z : ∀ o, o < n * 6 → w.frozen? ⟨gs, o, none⟩ = false

theorem Tab.below {w w' : World} {k gs n : Nat} {F : Nat → Nat → Bool} (h : Tab w gs n F) (hb : Below k w w') (hk : gs < k) : Tab w' gs n F :=
  ⟨Nat.lt_of_lt_of_le h.lt hb.size, fun i j hi hj => (hb.cell (p := ⟨gs, i * 6 + j, none⟩) hk).trans (h.c i j hi hj), fun o ho => (hb.frozen (p := ⟨gs, o, none⟩) hk).trans (h.z o ho)⟩

theorem cell_block {w w' : World} {R b : Nat} (hk : ∀ k, k ≠ R → w'.heap[k]? = w.heap[k]?) (hb : b ≠ R) (j : Nat) : w'.cell? ⟨b, j, none⟩ = w.cell? ⟨b, j, none⟩ := by
  have h := hk b hb
  unfold World.cell?
  simp only [h]

theorem six_at (S : Nat → Bool) (j : Nat) (hj : j < 6) (h : j < (six S).toList.length) : (six S).toList[j] = .bool (S j) := by
  obtain rfl | rfl | rfl | rfl | rfl | rfl := (by omega : j = 0 ∨ j = 1 ∨ j = 2 ∨ j = 3 ∨ j = 4 ∨ j = 5) <;> rfl

theorem storeRow {w : World} {gs n : Nat} {F : Nat → Nat → Bool} (h : Tab w gs n F) {k : Nat} (hk : k < n) (S : Nat → Bool) :
    ∃ w', (storeCells ⟨gs, k * 6, none⟩ (six S).toList).run Try.prog w = .ok () w' ∧ Below gs w w' ∧ w'.heap.size = w.heap.size ∧ (∀ b, b ≠ gs → w'.heap[b]? = w.heap[b]?) ∧ Tab w' gs n (fun i j => if i = k then S j else F i j) := by
  have hl : (six S).toList.length = 6 := rfl
  have hs : ∀ j, j < (six S).toList.length → (w.cell? ⟨gs, k * 6 + 0 + j, none⟩).isSome = true := fun j hj => by
    rw [Nat.add_zero, h.c k j hk (by rw [hl] at hj; exact hj)]; rfl
  have hc := run_storeCells_cells (P := Try.prog) gs (k * 6) (six S).toList 0 w hs (fun j hj => by rw [Nat.add_zero]; exact h.z _ (by rw [hl] at hj; omega)) (fun v hv => (Array.all_eq_true_iff_forall_mem.1 (bools_one 6 S)) v (by
    have : v ∈ (six S).toList := hv
    simpa [six, bools, List.range, List.range.loop] using this))
  refine ⟨_, hc, below_setCellsT gs _ _ _, size_setCellsT gs _ _ _, block_setCellsT gs _ _ _, ?_⟩
  refine ⟨by rw [size_setCellsT]; exact h.lt, fun i j hi hj => ?_, fun o ho => ?_⟩
  · by_cases e : i = k
    · subst e
      rw [if_pos rfl]
      have := World.cell?_setCells_in gs (six S).toList (i * 6 + 0) w hs j (by rw [hl]; exact hj)
      rw [six_at S j hj] at this
      rw [Nat.add_zero] at this ⊢
      exact this
    · rw [if_neg e, World.cell?_setCells_out gs (six S).toList (k * 6 + 0) w ⟨gs, i * 6 + j, none⟩ (fun _ _ => by rw [hl]; simp only; omega)]
      exact h.c i j hi hj
  · rw [World.frozen?_setCells]
    exact h.z o ho

/-- the sets behind k nodes -/
def vals (G : Gph) (fs : List Nat) (ns : List Nd) : Nat → Nat → Nat → Bool
  | 0 => fun _ _ => false
  | k + 1 => fun i => if i = k then (match ns[k]? with | some x => hold1 G fs x.1 x.2.1 (vals G fs ns k x.2.2.1) (vals G fs ns k x.2.2.2.1) | none => fun _ => false) else vals G fs ns k i

theorem vals_next {G : Gph} {fs : List Nat} {ns : List Nd} {k sg wy li ri c : Nat} (hx : ns[k]? = some (sg, wy, li, ri, c)) : (fun i j => if i = k then hold1 G fs sg wy (vals G fs ns k li) (vals G fs ns k ri) j else vals G fs ns k i j) = vals G fs ns (k + 1) := by
  funext i j
  show _ = (if i = k then (match ns[k]? with | some x => hold1 G fs x.1 x.2.1 (vals G fs ns k x.2.2.1) (vals G fs ns k x.2.2.2.1) | none => fun _ => false) else vals G fs ns k i) j
  by_cases e : i = k
  · rw [if_pos e, if_pos e, hx]
  · rw [if_neg e, if_neg e]

theorem vals_stay {G : Gph} {fs : List Nat} {ns : List Nd} {i : Nat} : ∀ k, i < k → vals G fs ns k i = vals G fs ns (i + 1) i := by
  intro k
  induction k with
  | zero => intro h; omega
  | succ k ih =>
    intro h
    by_cases e : i = k
    · subst e; rfl
    · rw [← ih (by omega)]
      show (if i = k then _ else vals G fs ns k i) = _
      rw [if_neg e]

theorem hold1_atom (G : Gph) (fs : List Nat) (sg wy : Nat) (S T S' T' : Nat → Bool) (h : isAtom sg = true) : hold1 G fs sg wy S T = hold1 G fs sg wy S' T' := by
  simp only [isAtom, decide_eq_true_eq] at h
  have q1 : ¬ sg = 33 := by omega
  have q2 : ¬ sg = 38 := by omega
  have q3 : ¬ sg = 43 := by omega
  have q4 : ¬ (sg = 88 ∨ sg = 85 ∨ sg = 82) := by omega
  funext i
  simp only [hold1, if_neg q1, if_neg q2, if_neg q3, if_neg q4]

theorem hold1_one (G : Gph) (fs : List Nat) (sg wy : Nat) (S T T' : Nat → Bool) (h : sg = 33 ∨ sg = 88) : hold1 G fs sg wy S T = hold1 G fs sg wy S T' := by
  funext i
  rcases h with rfl | rfl
  · rfl
  · simp [hold1, everyP, someP, Fw.flip]

/-- THE ROW OF SETS TELLS WHERE EACH FORMULA HOLDS -/
theorem vals_is {G : Gph} {fs : List Nat} {ns : List Nd} (hc : Clo ns) : ∀ (t : Fm), good t → ∀ i k, Rep ns t i → i < k → vals G fs ns k i = holdsP G fs t := by
  intro t
  induction t with
  | nil => intro h; exact absurd h (by simp [good])
  | node sg wy u l r ihl ihr =>
    intro h i k hr hk
    obtain ⟨li, ri, hx, hrl, hrr⟩ := hr
    rw [vals_stay k hk, ← vals_next hx, holdsP_node]
    have ee : (fun j => if i = i then hold1 G fs sg wy (vals G fs ns i li) (vals G fs ns i ri) j else vals G fs ns i i j) = hold1 G fs sg wy (vals G fs ns i li) (vals G fs ns i ri) := by
      funext j; rw [if_pos rfl]
    show (fun j => if i = i then hold1 G fs sg wy (vals G fs ns i li) (vals G fs ns i ri) j else vals G fs ns i i j) = _
    rw [ee]
    clear ee
    have hcx := (hc i _ hx).1
    rcases good_cases h with ⟨c, e, hc1, ht⟩ | ⟨x, e, hx1, ht⟩ | ⟨s, x, y, e, hs, hx1, hy1, ht⟩ | ⟨v, x, e, hv, hx1, ht⟩ | ⟨s, v, x, y, e, hs, hv, hx1, hy1, ht⟩
    · injection e with e3 e0 _ e1 e2
      subst e3 e0 e1 e2
      exact hold1_atom _ _ _ _ _ _ _ _ hc1
    · injection e with e3 e0 _ e1 e2
      subst e3 e0 e1 e2
      have hlt : li < i := by
        rcases hcx with ⟨ha, _⟩ | ⟨h1, _⟩
        · simp [isAtom] at ha
        · exact h1
      rw [ihl hx1 li i hrl hlt]
      exact hold1_one _ _ _ _ _ _ _ (.inl rfl)
    · injection e with e3 e0 _ e1 e2
      subst e3 e0 e1 e2
      have hlt : li < i ∧ ri < i := by
        rcases hcx with ⟨ha, _⟩ | h1
        · simp only [isAtom, decide_eq_true_eq] at ha; omega
        · exact h1
      rw [ihl hx1 li i hrl hlt.1, ihr hy1 ri i hrr hlt.2]
    · injection e with e3 e0 _ e1 e2
      subst e3 e0 e1 e2
      have hlt : li < i := by
        rcases hcx with ⟨ha, _⟩ | ⟨h1, _⟩
        · simp [isAtom] at ha
        · exact h1
      rw [ihl hx1 li i hrl hlt]
      exact hold1_one _ _ _ _ _ _ _ (.inr rfl)
    · injection e with e3 e0 _ e1 e2
      subst e3 e0 e1 e2
      have hlt : li < i ∧ ri < i := by
        rcases hcx with ⟨ha, _⟩ | h1
        · simp only [isAtom, decide_eq_true_eq] at ha; omega
        · exact h1
      rw [ihl hx1 li i hrl hlt.1, ihr hy1 ri i hrr hlt.2]

theorem Try.info56 : (Try.prog.info? 56).map (fun i => (i.zero, i.size, i.bytes)) = some (some (.agg (six fun _ => false)), 6, 6) := by kernel_rfl
theorem Try.size84 : (Try.prog.info? 84).map (·.size) = some 5 := by kernel_rfl

theorem there_newG (w : World) (C : Array Value) (t : TypeId) (n : Nat) (h : C.size = n) : (w.alloc (.cells C t)).there w.heap.size 0 n := by
  intro j hj
  have hb := heap_alloc_new w (.cells C t)
  refine ⟨?_, frozen_of_row _ _ _ _ _ hb⟩
  rw [cell_of_row _ _ _ _ _ _ hb]
  simp
  omega

theorem make_sets (n : Nat) (hn : n ≤ 1000) : ∃ Z : Array Value, (∀ j, j < n * 6 → Z[j]? = some (.bool false)) ∧ ∀ W : World, (Instr.makeSlice 77 (.int .i64 (n : Int)) (.int .i64 (n : Int))).run Try.prog W = .ok (.slice (some ⟨W.heap.size, 0, none⟩) n n) (W.alloc (.cells Z 56)) := by
  obtain ⟨i, hi, hz, hs, hb⟩ := info_parts Try.info56
  refine ⟨madeCells (six fun _ => false) (n * 6), fun j hj => ?_, fun W => ?_⟩
  · unfold madeCells
    rw [Array.getElem?_map, Array.getElem?_range, if_pos hj]
    have : j % 6 = 0 ∨ j % 6 = 1 ∨ j % 6 = 2 ∨ j % 6 = 3 ∨ j % 6 = 4 ∨ j % 6 = 5 := by omega
    have e6 : (six fun _ => false).size = 6 := rfl
    simp only [Option.map_some, e6]
    rcases this with h | h | h | h | h | h <;> rw [h] <;> rfl
  · have := run_make (P := Try.prog) W 77 56 i _ Try.underlying77 hi hz .i64 .i64 (n : Int) (n : Int) (by omega) (by omega) (by rw [hb]; omega) (by omega)
    rw [hs] at this
    rw [show (Value.agg (six fun _ => false)).cells = six fun _ => false from rfl] at this
    simpa using this

end Go.Proofs.Ytcfbfdjmcabnkaa

namespace Go.Proofs.Ytcfbfdjmcabnkaa
open Go.RowKit Fw
open Go.Deep (BT)
set_option linter.unusedVariables false

/-- a row of nodes -/
structure Nr (w : World) (g : Nat) (ns : List Nd) : Prop where
  lt : g < w.heap.size
  c : ∀ i x, ns[i]? = some x → ∀ j u, (five x)[j]? = some u → w.cell? ⟨g, i * 5 + j, none⟩ = some u
theorem Nr.below {w w' : World} {k g : Nat} {ns : List Nd} (h : Nr w g ns) (hb : Below k w w') (hk : g < k) : Nr w' g ns :=
  ⟨Nat.lt_of_lt_of_le h.lt hb.size, fun i x hx j u hu => (hb.cell (p := ⟨g, i * 5 + j, none⟩) hk).trans (h.c i x hx j u hu)⟩

set_option maxRecDepth 100000 in
set_option maxHeartbeats 4000000 in
theorem holdings_P (b o g n cap : Nat) (G : Gph) (K : Nat → ByteArray) (f : ByteArray) (ns : List Nd) (hc : Clo ns) (hl : ns.length = n) (hn : n ≤ 1000) (hf : f.size ≤ 1000) (w : World) (HG : Hid (Wy w b o G K f (begP G (fsOf f)))) (HN : Hid (Nr w g ns)) :
    Calls Try.prog 37 #[.pointer (some ⟨b, o, none⟩), .slice (some ⟨g, 0, none⟩) n cap] w fun e w' => Below w.heap.size w w' ∧ e = .returned (.slice (some ⟨w.heap.size, 0, none⟩) n n) ∧ Tab w' w.heap.size n (vals G (fsOf f) ns n) := by
  have hgl := HG.out.lt
  have hnl := HN.out.lt
  obtain ⟨Z, hZ, hmk⟩ := make_sets n hn
  have HZ : Hid (∀ j, j < n * 6 → Z[j]? = some (.bool false)) := hZ
  have HCL : Hid (Clo ns) := hc
  have HLEN : Hid (ns.length = n) := hl
  clear hZ hc hl
  go_enter Try.func37, Try.ntmps37
  go_wp2_with fail
  clear hmk
  go_loopw [6] (fun q wr => ∃ k : Nat, k ≤ n ∧ q = .int .i64 k ∧ Below w.heap.size w wr ∧ Hid (Tab wr w.heap.size n (vals G (fsOf f) ns k))) (fun q _ => n - (intOf q).toNat)
  case atStart =>
    have hb := heap_alloc_new w (.cells Z 56)
    refine ⟨0, by omega, rfl, (Below.refl _ _).alloc (Nat.le_refl _) _, ⟨by simp, fun i j hi hj => ?_, fun o _ => frozen_of_row _ _ _ _ _ hb⟩⟩
    rw [cell_of_row _ _ _ _ _ _ hb]
    exact HZ.out _ (by omega)
  case round =>
    obtain ⟨k, hk, rfl, hbel, HT⟩ := hrel
    by_cases hlt : k < n
    · obtain ⟨⟨sg, wy, li, ri, c⟩, hx⟩ : ∃ x, ns[k]? = some x := ⟨_, List.getElem?_eq_getElem (by rw [HLEN.out]; exact hlt)⟩
      have hlr : li < n ∧ ri < n := by
        rcases (HCL.out k _ hx).1 with ⟨_, h1, h2⟩ | ⟨h1, h2⟩
        · simp only at h1 h2; omega
        · simp only at h1 h2; omega
      obtain ⟨hli, hri⟩ := hlr
      have HNr : Hid (Nr wr g ns) := HN.out.below hbel hnl
      have n0 : wr.cell? ⟨g, k * 5, none⟩ = some (.int .u8 (sg : Int)) := HNr.out.c k _ hx 0 _ rfl
      have n1 : wr.cell? ⟨g, k * 5 + 1, none⟩ = some (.int .u8 (wy : Int)) := HNr.out.c k _ hx 1 _ rfl
      have n2 : wr.cell? ⟨g, k * 5 + 2, none⟩ = some (.int .i64 (li : Int)) := HNr.out.c k _ hx 2 _ rfl
      have n3 : wr.cell? ⟨g, k * 5 + 3, none⟩ = some (.int .i64 (ri : Int)) := HNr.out.c k _ hx 3 _ rfl
      have n4 : wr.cell? ⟨g, k * 5 + 4, none⟩ = some (.int .i64 (c : Int)) := HNr.out.c k _ hx 4 _ rfl
      have HNX : Hid (∀ W, Tab W w.heap.size n (fun i j => if i = k then hold1 G (fsOf f) sg wy (vals G (fsOf f) ns k li) (vals G (fsOf f) ns k ri) j else vals G (fsOf f) ns k i j) → Hid (Tab W w.heap.size n (vals G (fsOf f) ns (k + 1)))) := by
        intro W h
        show Tab _ _ _ _
        rw [← vals_next hx]
        exact h
      have HSL : Hid (∀ W, Tab W w.heap.size n (vals G (fsOf f) ns k) → (∀ j, j < 6 → W.cell? ⟨w.heap.size, li * 6 + j, none⟩ = some (.bool (vals G (fsOf f) ns k li j))) ∧ (∀ j, j < 6 → W.cell? ⟨w.heap.size, ri * 6 + j, none⟩ = some (.bool (vals G (fsOf f) ns k ri j)))) :=
        fun W h => ⟨fun j hj => h.c li j hli hj, fun j hj => h.c ri j hri hj⟩
      obtain ⟨SL, hSL⟩ : ∃ SL, SL = vals G (fsOf f) ns k li := ⟨_, rfl⟩
      obtain ⟨TR, hTR⟩ : ∃ TR, TR = vals G (fsOf f) ns k ri := ⟨_, rfl⟩
      rw [← hSL, ← hTR] at HNX HSL
      clear hSL hTR
      have HC := fun W (h : Hid (Wy W b o G K f (begP G (fsOf f)))) => hold_P b o sg wy li ri c G K f SL TR hf W h
      have i0 : (0 : Int) ≤ (li : Int) := by omega
      have i1 : (li : Int) < (n : Int) := by omega
      have j0 : (0 : Int) ≤ (ri : Int) := by omega
      have j1 : (ri : Int) < (n : Int) := by omega
      have k0 : (0 : Int) ≤ (k : Int) := by omega
      have k1 : (k : Int) < (n : Int) := by omega
      have hsz : w.heap.size < wr.heap.size := HT.out.lt
      clear hx
      go_wp2_with fail
      generalize hW : wr.alloc (Obj.cells #[Value.int IntKind.u8 (sg : Int), Value.int IntKind.u8 (wy : Int), Value.int IntKind.i64 (li : Int), Value.int IntKind.i64 (ri : Int), Value.int IntKind.i64 (c : Int)] 84) = W
      have m0 : W.cell? ⟨wr.heap.size, 0, none⟩ = some (.int .u8 (sg : Int)) := by rw [← hW]; simp
      have m1 : W.cell? ⟨wr.heap.size, 1, none⟩ = some (.int .u8 (wy : Int)) := by rw [← hW]; simp
      have m2 : W.cell? ⟨wr.heap.size, 2, none⟩ = some (.int .i64 (li : Int)) := by rw [← hW]; simp
      have m3 : W.cell? ⟨wr.heap.size, 3, none⟩ = some (.int .i64 (ri : Int)) := by rw [← hW]; simp
      have m4 : W.cell? ⟨wr.heap.size, 4, none⟩ = some (.int .i64 (c : Int)) := by rw [← hW]; simp
      have hbW2 : Below wr.heap.size wr W := by rw [← hW]; exact (Below.refl _ _).alloc (Nat.le_refl _) _
      have hwb : wr.heap.size < W.heap.size := by rw [← hW]; simp
      have hwn : wr.heap.size ≠ w.heap.size := by omega
      have HTW : Hid (Tab W w.heap.size n (vals G (fsOf f) ns k)) := HT.out.below hbW2 HT.out.lt
      have hbelW : Below w.heap.size w W := Below.to hbel hbW2
      have HGW : Hid (Wy W b o G K f (begP G (fsOf f))) := HG.out.below hbelW hgl
      obtain ⟨hsl, htr⟩ := HSL.out W HTW.out
      have s0 : W.cell? ⟨w.heap.size, li * 6, none⟩ = some (.bool (SL 0)) := hsl 0 (by omega)
      have s1 := hsl 1 (by omega)
      have s2 := hsl 2 (by omega)
      have s3 := hsl 3 (by omega)
      have s4 := hsl 4 (by omega)
      have s5 := hsl 5 (by omega)
      have t0 : W.cell? ⟨w.heap.size, ri * 6, none⟩ = some (.bool (TR 0)) := htr 0 (by omega)
      have t1 := htr 1 (by omega)
      have t2 := htr 2 (by omega)
      have t3 := htr 3 (by omega)
      have t4 := htr 4 (by omega)
      have t5 := htr 5 (by omega)
      clear hsl htr HSL hW hbW2 n0 n1 n2 n3 n4 HNr HT hbel
      refine wp_region_held_drew (S := fun w' => w'.cell? ⟨wr.heap.size, 0, none⟩ = some (.int .u8 (sg : Int)) ∧ w'.cell? ⟨wr.heap.size, 1, none⟩ = some (.int .u8 (wy : Int)) ∧ w'.cell? ⟨wr.heap.size, 2, none⟩ = some (.int .i64 (li : Int)) ∧ w'.cell? ⟨wr.heap.size, 3, none⟩ = some (.int .i64 (ri : Int)) ∧ w'.cell? ⟨wr.heap.size, 4, none⟩ = some (.int .i64 (c : Int))) (by kernel_rfl) ⟨m0, m1, m2, m3, m4⟩ (fun hHeld => ?_)
      refine wpAnyH_take (i := 0) (v := ?v1) rfl (by kernel_rfl) (by kernel_rfl) (by kernel_rfl) (fun _ _ _ h => h) (Or.inl ⟨by rfl, ?hy1⟩) hHeld ?rest1
      case hy1 =>
        intro W' hW'
        obtain ⟨hW0, hW1, hW2, hW3, hW4⟩ := hW'
        go_simp
        try with_reducible rfl
      simp only [Act.put]
      refine wpAnyH_take (i := 1) (v := ?v2) rfl (by kernel_rfl) (by kernel_rfl) (by kernel_rfl) (fun _ _ _ h => h) (Or.inl ⟨by rfl, ?hy2⟩) hHeld ?rest2
      case hy2 =>
        intro W' hW'
        obtain ⟨hW0, hW1, hW2, hW3, hW4⟩ := hW'
        go_simp
        try with_reducible rfl
      simp only [Act.put]
      refine wpAnyH_take (i := 2) (v := ?v3) rfl (by kernel_rfl) (by kernel_rfl) (by kernel_rfl) (fun _ _ _ h => h) (Or.inl ⟨by rfl, ?hy3⟩) hHeld ?rest3
      case hy3 =>
        intro W' hW'
        obtain ⟨hW0, hW1, hW2, hW3, hW4⟩ := hW'
        go_simp
        try with_reducible rfl
      simp only [Act.put]
      refine wpAnyH_take (i := 3) (v := ?v4) rfl (by kernel_rfl) (by kernel_rfl) (by kernel_rfl) (fun _ _ _ h => h) (Or.inl ⟨by rfl, ?hy4⟩) hHeld ?rest4
      case hy4 =>
        intro W' hW'
        obtain ⟨hW0, hW1, hW2, hW3, hW4⟩ := hW'
        go_simp
        try with_reducible rfl
      simp only [Act.put]
      refine wpAnyH_take (i := 4) (v := ?v5) rfl (by kernel_rfl) (by kernel_rfl) (by kernel_rfl) (fun _ _ _ h => h) (Or.inl ⟨by rfl, ?hy5⟩) hHeld ?rest5
      case hy5 =>
        intro W' hW'
        obtain ⟨hW0, hW1, hW2, hW3, hW4⟩ := hW'
        go_simp
        try with_reducible rfl
      simp only [Act.put]
      refine wpAnyH_take (i := 5) (v := ?v6) rfl (by kernel_rfl) (by kernel_rfl) (by kernel_rfl) (fun _ _ _ h => h) (Or.inl ⟨by rfl, ?hy6⟩) hHeld ?rest6
      case hy6 =>
        intro W' hW'
        obtain ⟨hW0, hW1, hW2, hW3, hW4⟩ := hW'
        go_simp
        try with_reducible rfl
      simp only [Act.put]
      refine wpAnyH_take (i := 6) (v := ?v7) rfl (by kernel_rfl) (by kernel_rfl) (by kernel_rfl) (fun _ _ _ h => h) (Or.inl ⟨by rfl, ?hy7⟩) hHeld ?rest7
      case hy7 =>
        intro W' hW'
        obtain ⟨hW0, hW1, hW2, hW3, hW4⟩ := hW'
        go_simp
        try with_reducible rfl
      simp only [Act.put]
      refine wpAnyH_take (i := 7) (v := ?v8) rfl (by kernel_rfl) (by kernel_rfl) (by kernel_rfl) (fun _ _ _ h => h) (Or.inl ⟨by rfl, ?hy8⟩) hHeld ?rest8
      case hy8 =>
        intro W' hW'
        obtain ⟨hW0, hW1, hW2, hW3, hW4⟩ := hW'
        go_simp
        try with_reducible rfl
      simp only [Act.put]
      refine wpAnyH_take (i := 9) (v := ?v9) rfl (by kernel_rfl) (by kernel_rfl) (by kernel_rfl) (fun _ _ _ h => h) (Or.inl ⟨by rfl, ?hy9⟩) hHeld ?rest9
      case hy9 =>
        intro W' hW'
        obtain ⟨hW0, hW1, hW2, hW3, hW4⟩ := hW'
        go_simp
        try with_reducible rfl
      simp only [Act.put]
      refine wpAnyH_take (i := 10) (v := ?v10) rfl (by kernel_rfl) (by kernel_rfl) (by kernel_rfl) (fun _ _ _ h => h) (Or.inl ⟨by rfl, ?hy10⟩) hHeld ?rest10
      case hy10 =>
        intro W' hW'
        obtain ⟨hW0, hW1, hW2, hW3, hW4⟩ := hW'
        go_simp
        try with_reducible rfl
      simp only [Act.put]
      refine wpAnyH_take (i := 11) (v := ?v11) rfl (by kernel_rfl) (by kernel_rfl) (by kernel_rfl) (fun _ _ _ h => h) (Or.inl ⟨by rfl, ?hy11⟩) hHeld ?rest11
      case hy11 =>
        intro W' hW'
        obtain ⟨hW0, hW1, hW2, hW3, hW4⟩ := hW'
        go_simp
        try with_reducible rfl
      simp only [Act.put]
      refine wpAnyH_take (i := 12) (v := ?v12) rfl (by kernel_rfl) (by kernel_rfl) (by kernel_rfl) (fun _ _ _ h => h) (Or.inl ⟨by rfl, ?hy12⟩) hHeld ?rest12
      case hy12 =>
        intro W' hW'
        obtain ⟨hW0, hW1, hW2, hW3, hW4⟩ := hW'
        go_simp
        try with_reducible rfl
      simp only [Act.put]
      refine wpAnyH_ready (rs := [8, 13]) (by kernel_rfl) (by simp) ?_
      refine AllReadyH.cons rfl (fun KK hKK => ?_) (AllReadyH.cons rfl (fun KK hKK => ?_) AllReadyH.nil)
      · go_simp
        refine hKK.out _ _ hHeld (fun hHeld => ?_)
        clear hKK KK
        refine wpAnyH_ready (rs := [13]) (by kernel_rfl) (by simp) ?_
        refine AllReadyH.cons rfl (fun KK hKK => ?_) AllReadyH.nil
        go_simp
        refine hKK.out _ _ hHeld (fun hHeld => ?_)
        clear hKK KK
        refine wpAnyH_ready (rs := [14]) (by kernel_rfl) (by simp) ?_
        refine AllReadyH.cons rfl (fun KK hKK => ?_) AllReadyH.nil
        go_simp
        refine (HC _ HGW.out.drew).mono ?_
        rintro e w4 ⟨rfl, hb4⟩
        have hc4 : Below W.heap.size W w4 := Below.dr hb4
        have HT4 : Hid (Tab w4 w.heap.size n (vals G (fsOf f) ns k)) := HTW.out.below hc4 HTW.out.lt
        obtain ⟨w5, hrun5, hb5, hz5, hk5, HT5'⟩ := storeRow HT4.out hlt (hold1 G (fsOf f) sg wy SL TR)
        have HT5 : Hid (Tab w5 w.heap.size n _) := HT5'
        clear HT5'
        have p0 := (hc4.cell (p := ⟨wr.heap.size, 0, none⟩) hwb).trans m0
        have p1 := (hc4.cell (p := ⟨wr.heap.size, 1, none⟩) hwb).trans m1
        have p2 := (hc4.cell (p := ⟨wr.heap.size, 2, none⟩) hwb).trans m2
        have p3 := (hc4.cell (p := ⟨wr.heap.size, 3, none⟩) hwb).trans m3
        have p4 := (hc4.cell (p := ⟨wr.heap.size, 4, none⟩) hwb).trans m4
        have r0 := (cell_block hk5 hwn 0).trans p0
        have r1 := (cell_block hk5 hwn 1).trans p1
        have r2 := (cell_block hk5 hwn 2).trans p2
        have r3 := (cell_block hk5 hwn 3).trans p3
        have r4 := (cell_block hk5 hwn 4).trans p4
        clear hHeld
        go_wp2_with fail
        refine hKK.out _ _ ⟨p0, p1, p2, p3, p4⟩ (fun hHeld => ?_)
        clear hKK KK
        refine wpAnyH_take (i := 15) (v := ?v13) rfl (by kernel_rfl) (by kernel_rfl) (by kernel_rfl) (fun _ _ _ h => h) (Or.inl ⟨by rfl, ?hy13⟩) hHeld ?rest13
        case hy13 =>
          intro W' hW'
          obtain ⟨hW0, hW1, hW2, hW3, hW4⟩ := hW'
          go_simp
          try with_reducible rfl
        simp only [Act.put]
        refine wpAnyH_ready (rs := [16]) (by kernel_rfl) (by simp) ?_
        refine AllReadyH.cons rfl (fun KK hKK => ?_) AllReadyH.nil
        go_simp
        refine hKK.out _ _ ⟨r0, r1, r2, r3, r4⟩ (fun hHeld => ?_)
        clear hKK KK
        refine wpAnyH_done (by kernel_rfl) ?_ _
        go_wp2_with fail
        go_roundw
        case rel => exact ⟨k + 1, by omega, by go_num, (Below.to hbelW hc4).trans (hb5.mono (Nat.le_refl _)), HNX.out _ HT5.out⟩
        case measure => simp [intOf]; omega
      · go_simp
        refine hKK.out _ _ hHeld (fun hHeld => ?_)
        clear hKK KK
        refine wpAnyH_ready (rs := [8]) (by kernel_rfl) (by simp) ?_
        refine AllReadyH.cons rfl (fun KK hKK => ?_) AllReadyH.nil
        go_simp
        refine hKK.out _ _ hHeld (fun hHeld => ?_)
        clear hKK KK
        refine wpAnyH_ready (rs := [14]) (by kernel_rfl) (by simp) ?_
        refine AllReadyH.cons rfl (fun KK hKK => ?_) AllReadyH.nil
        go_simp
        refine (HC _ HGW.out.drew).mono ?_
        rintro e w4 ⟨rfl, hb4⟩
        have hc4 : Below W.heap.size W w4 := Below.dr hb4
        have HT4 : Hid (Tab w4 w.heap.size n (vals G (fsOf f) ns k)) := HTW.out.below hc4 HTW.out.lt
        obtain ⟨w5, hrun5, hb5, hz5, hk5, HT5'⟩ := storeRow HT4.out hlt (hold1 G (fsOf f) sg wy SL TR)
        have HT5 : Hid (Tab w5 w.heap.size n _) := HT5'
        clear HT5'
        have p0 := (hc4.cell (p := ⟨wr.heap.size, 0, none⟩) hwb).trans m0
        have p1 := (hc4.cell (p := ⟨wr.heap.size, 1, none⟩) hwb).trans m1
        have p2 := (hc4.cell (p := ⟨wr.heap.size, 2, none⟩) hwb).trans m2
        have p3 := (hc4.cell (p := ⟨wr.heap.size, 3, none⟩) hwb).trans m3
        have p4 := (hc4.cell (p := ⟨wr.heap.size, 4, none⟩) hwb).trans m4
        have r0 := (cell_block hk5 hwn 0).trans p0
        have r1 := (cell_block hk5 hwn 1).trans p1
        have r2 := (cell_block hk5 hwn 2).trans p2
        have r3 := (cell_block hk5 hwn 3).trans p3
        have r4 := (cell_block hk5 hwn 4).trans p4
        clear hHeld
        go_wp2_with fail
        refine hKK.out _ _ ⟨p0, p1, p2, p3, p4⟩ (fun hHeld => ?_)
        clear hKK KK
        refine wpAnyH_take (i := 15) (v := ?v14) rfl (by kernel_rfl) (by kernel_rfl) (by kernel_rfl) (fun _ _ _ h => h) (Or.inl ⟨by rfl, ?hy14⟩) hHeld ?rest14
        case hy14 =>
          intro W' hW'
          obtain ⟨hW0, hW1, hW2, hW3, hW4⟩ := hW'
          go_simp
          try with_reducible rfl
        simp only [Act.put]
        refine wpAnyH_ready (rs := [16]) (by kernel_rfl) (by simp) ?_
        refine AllReadyH.cons rfl (fun KK hKK => ?_) AllReadyH.nil
        go_simp
        refine hKK.out _ _ ⟨r0, r1, r2, r3, r4⟩ (fun hHeld => ?_)
        clear hKK KK
        refine wpAnyH_done (by kernel_rfl) ?_ _
        go_wp2_with fail
        go_roundw
        case rel => exact ⟨k + 1, by omega, by go_num, (Below.to hbelW hc4).trans (hb5.mono (Nat.le_refl _)), HNX.out _ HT5.out⟩
        case measure => simp [intOf]; omega
    · obtain rfl : k = n := by omega
      go_wp2_with fail
      go_ret
      exact ⟨hbel, rfl, HT.out⟩

end Go.Proofs.Ytcfbfdjmcabnkaa

namespace Go.Proofs.Ytcfbfdjmcabnkaa
open Go.RowKit Fw
open Go.Deep (BT)
set_option linter.unusedVariables false

set_option maxRecDepth 100000 in
set_option maxHeartbeats 4000000 in
theorem answer_P (qb g n cap r : Nat) (G : Gph) (K : Nat → ByteArray) (f : ByteArray) (ns : List Nd) (hc : Clo ns) (hl : ns.length = n) (hn : n ≤ 1000) (hf : f.size ≤ 1000) (hr : r < n) (w : World) (HG : Hid (Wy w qb 1 G K f (begP G (fsOf f)))) (HN : Hid (Nr w g ns))
    (c55 : w.cell? ⟨qb, 55, none⟩ = some (.slice (some ⟨g, 0, none⟩) n cap)) (c56 : w.cell? ⟨qb, 56, none⟩ = some (.int .i64 (r : Int))) :
    Calls Try.prog 28 #[.pointer (some ⟨qb, 0, none⟩)] w fun e w' => e = .returned (.string (bs (bitsU (vals G (fsOf f) ns n r) G.n))) ∧ Below w.heap.size w w' := by
  have hgl := HG.out.lt
  have hn6 := HG.out.n6
  have c3 : w.cell? ⟨qb, 3, none⟩ = some (.int .i64 (G.n : Int)) := HG.out.cn
  have HHO := holdings_P qb 1 g n cap G K f ns hc hl hn hf w.drew HG.out.drew (show Nr _ _ _ from ⟨HN.out.lt, HN.out.c⟩)
  have HV : Hid (∀ W, Tab W w.heap.size n (vals G (fsOf f) ns n) → ∀ j, j < 6 → W.cell? ⟨w.heap.size, r * 6 + j, none⟩ = some (.bool (vals G (fsOf f) ns n r j))) := fun W h j hj => h.c r j hr hj
  obtain ⟨H, hH⟩ : ∃ H, H = vals G (fsOf f) ns n r := ⟨_, rfl⟩
  rw [← hH] at HV
  rw [← hH]
  clear hH hc hl
  have r0 : (0 : Int) ≤ (r : Int) := by omega
  have r1 : (r : Int) < (n : Int) := by omega
  go_enter Try.func28, Try.ntmps28
  go_wp2_with fail
  go_region_held3 (fun w' => w'.cell? ⟨qb, 55, none⟩ = some (.slice (some ⟨g, 0, none⟩) n cap)) (first | exact d55 | exact c55) (first
   | (go_at_call 37; refine HHO.mono ?_; rintro e w1 ⟨hb1, rfl, HT⟩
      have HT1 : Hid (Tab w1 w.heap.size n (vals G (fsOf f) ns n)) := HT
      clear HT
      have d55 := (hb1.cell (p := ⟨qb, 55, none⟩) hgl).trans c55
      have d3 := (hb1.cell (p := ⟨qb, 3, none⟩) hgl).trans c3
      have d56 := (hb1.cell (p := ⟨qb, 56, none⟩) hgl).trans c56
      have hv := HV.out w1 HT1.out
      have s0 : w1.cell? ⟨w.heap.size, r * 6, none⟩ = some (.bool (H 0)) := hv 0 (by omega)
      have s1 := hv 1 (by omega)
      have s2 := hv 2 (by omega)
      have s3 := hv 3 (by omega)
      have s4 := hv 4 (by omega)
      have s5 := hv 5 (by omega)
      clear hv))
  all_goals
    rename_i hHeld
    clear hHeld
    go_wp2_with fail
    generalize hW : w1.alloc (Obj.cells #[Value.bool (H 0), Value.bool (H 1), Value.bool (H 2), Value.bool (H 3), Value.bool (H 4), Value.bool (H 5)] 56) = W
    have HR : Hid (Arr W w1.heap.size 6 H) := by show Arr _ _ _ _; rw [← hW]; exact arr_new w1 H 56
    have hbW : Below w1.heap.size w1 W := by rw [← hW]; exact (Below.refl _ _).alloc (Nat.le_refl _) _
    have f3 : W.cell? ⟨qb, 3, none⟩ = some (.int .i64 (G.n : Int)) := (hbW.cell (p := ⟨qb, 3, none⟩) (Nat.lt_of_lt_of_le hgl hb1.size)).trans d3
    have hbe : Below w.heap.size w W := (show Below w.heap.size w w1 from Below.dr hb1).trans (hbW.mono hb1.size)
    clear hW s0 s1 s2 s3 s4 s5 d3 d55 d56 HT1 hbW
    go_loop [5, 6] (fun v q => ∃ k : Nat, k ≤ G.n ∧ v = .string (bs (bitsU H k)) ∧ q = .int .i64 k) (fun _ q => G.n - (intOf q).toNat)
    case atStart => exact ⟨0, by omega, rfl, rfl⟩
    case round =>
      obtain ⟨k, hk, rfl, rfl⟩ := hrel
      by_cases hlt : k < G.n
      · have k0 : (0 : Int) ≤ (k : Int) := by omega
        have k1 : (k : Int) < 6 := by omega
        have cr := HR.out.c k (by omega)
        have hl : (bs (bitsU H k)).size = k := by rw [bs_size, bitsU_len]
        have hl2 : (bs (bitsU H k)).size ≤ 6 := by omega
        have HB := bitsU_succ H k
        cases hx : H k with
        | true =>
          rw [hx] at cr HB
          have HB' : Hid (bs (bitsU H k) ++ (⟨#[49]⟩ : ByteArray) = bs (bitsU H (k + 1))) := by show _ = _; rw [HB, if_pos rfl]; exact bs_add _ [49]
          clear HB hx
          go_wp2_with fail
          go_round
          case rel => exact ⟨k + 1, by omega, by rw [HB'.out], by go_num⟩
          case measure => simp [intOf]; omega
        | false =>
          rw [hx] at cr HB
          have HB' : Hid (bs (bitsU H k) ++ (⟨#[48]⟩ : ByteArray) = bs (bitsU H (k + 1))) := by show _ = _; rw [HB, if_neg (by simp)]; exact bs_add _ [48]
          clear HB hx
          go_wp2_with fail
          go_round
          case rel => exact ⟨k + 1, by omega, by rw [HB'.out], by go_num⟩
          case measure => simp [intOf]; omega
      · have hkn : k = G.n := by omega
        have HK : Hid (k = G.n) := hkn
        clear hkn
        go_wp2_with fail
        go_ret
        exact ⟨by rw [← HK.out]; rfl, hbe⟩

end Go.Proofs.Ytcfbfdjmcabnkaa

namespace Go.Proofs.Ytcfbfdjmcabnkaa
open Go.RowKit Fw
open Go.Deep (BT)
set_option linter.unusedVariables false

theorem Try.size58 : (Try.prog.info? 58).map (·.size) = some 52 := by kernel_rfl
theorem Try.row58 : ∃ d, Try.prog.underlying 58 = some d ∧ d.isRow = true := ⟨_, Try.underlying58, rfl⟩

def cells52 (c : Nat) (M : Nat → Nat → Bool) (K : Nat → ByteArray) (f : ByteArray) (B : Nat → Bool) : List Value := .int .i64 0 :: .int .i64 0 :: (grCells c M K ++ (.string f :: bools 6 B))

theorem built61 (c : Nat) (M : Nat → Nat → Bool) (K : Nat → ByteArray) (f : ByteArray) : Try.prog.built 58 [(0, .agg (.int .i64 0 :: .int .i64 0 :: grCells c M K).toArray), (1, .string f)] = some (cells52 c M K f (fun _ => false)).toArray := by kernel_rfl

theorem cells52_len (c : Nat) (M : Nat → Nat → Bool) (K : Nat → ByteArray) (f : ByteArray) (B : Nat → Bool) : (cells52 c M K f B).length = 52 := by simp [cells52, grCells_len, bools_len]
theorem cells52_one (c : Nat) (M : Nat → Nat → Bool) (K : Nat → ByteArray) (f : ByteArray) (B : Nat → Bool) : (cells52 c M K f B).toArray.all (·.oneCell') = true := by
  refine all_oneCell_toArray fun v hv => ?_
  simp only [cells52, List.mem_cons, List.mem_append] at hv
  rcases hv with rfl | rfl | hv | rfl | hv
  · rfl
  · rfl
  · exact grCells_one _ _ _ v hv
  · rfl
  · simp only [bools, List.mem_map] at hv
    obtain ⟨k, _, rfl⟩ := hv
    rfl

theorem cells52_gr (c : Nat) (M : Nat → Nat → Bool) (K : Nat → ByteArray) (f : ByteArray) (B : Nat → Bool) (j : Nat) (hj : j < 43) : (cells52 c M K f B)[j + 2]? = (grCells c M K)[j]? := by
  unfold cells52
  rw [List.getElem?_cons_succ, List.getElem?_cons_succ, List.getElem?_append_left (by rw [grCells_len]; exact hj)]
theorem cells52_fair (c : Nat) (M : Nat → Nat → Bool) (K : Nat → ByteArray) (f : ByteArray) (B : Nat → Bool) : (cells52 c M K f B)[45]? = some (.string f) := by
  unfold cells52
  rw [List.getElem?_cons_succ, List.getElem?_cons_succ, List.getElem?_append_right (by rw [grCells_len]; omega), grCells_len]
  rfl
theorem cells52_set (c : Nat) (M : Nat → Nat → Bool) (K : Nat → ByteArray) (f : ByteArray) (B : Nat → Bool) (j : Nat) (hj : j < 6) : (cells52 c M K f B)[46 + j]? = some (.bool (B j)) := by
  unfold cells52
  rw [show 46 + j = (43 + (j + 1)) + 2 from by omega, List.getElem?_cons_succ, List.getElem?_cons_succ, List.getElem?_append_right (by rw [grCells_len]; omega), grCells_len, show 43 + (j + 1) - 43 = j + 1 from by omega, List.getElem?_cons_succ]
  simp only [bools, List.getElem?_map, List.getElem?_range hj, Option.map_some]
/-- ahead of the last six the last six do not matter -/
theorem cells52_pre (c : Nat) (M : Nat → Nat → Bool) (K : Nat → ByteArray) (f : ByteArray) (B B' : Nat → Bool) (j : Nat) (hj : j < 46) : (cells52 c M K f B)[j]? = (cells52 c M K f B')[j]? := by
  rcases Nat.lt_or_ge j 2 with h | h
  · obtain rfl | rfl : j = 0 ∨ j = 1 := by omega
    · rfl
    · rfl
  · obtain ⟨i, rfl⟩ : ∃ i, j = i + 2 := ⟨j - 2, by omega⟩
    rcases Nat.lt_or_ge i 43 with h2 | h2
    · rw [cells52_gr _ _ _ _ _ _ h2, cells52_gr _ _ _ _ _ _ h2]
    · obtain rfl : i = 43 := by omega
      rw [cells52_fair, cells52_fair]

theorem wy_of {w : World} {b o : Nat} {G : Gph} {K : Nat → ByteArray} {f : ByteArray} {B : Nat → Bool} (lt : b < w.heap.size) (n6 : G.n ≤ 6) (ks : ∀ i, (K i).size ≤ 1000) (mm : ∀ i c, i < 6 → (G.m i c = true ↔ ∃ d ∈ (K i).data.toList, d.toNat = c))
    (h : w.rangeAt b o (cells52 G.n G.e K f B)) : Wy w b o G K f B := by
  refine ⟨lt, n6, ?_, ?_, ?_, ?_, ?_, ks, mm⟩
  · exact h 2 _ rfl
  · intro i hi
    have := h (3 + i) _ (by rw [show 3 + i = (1 + i) + 2 from by omega, cells52_gr _ _ _ _ _ _ (by omega)]; exact grCells_mark _ _ _ i hi)
    rw [show o + 3 + i = o + (3 + i) from by omega]
    exact this
  · intro i j hi hj
    have := h (9 + i * 6 + j) _ (by rw [show 9 + i * 6 + j = (7 + i * 6 + j) + 2 from by omega, cells52_gr _ _ _ _ _ _ (by omega)]; exact grCells_edge _ _ _ i j hi hj)
    rw [show o + 9 + i * 6 + j = o + (9 + i * 6 + j) from by omega]
    exact this
  · exact h 45 _ (cells52_fair _ _ _ _ _)
  · intro i hi
    have := h (46 + i) _ (cells52_set _ _ _ _ _ i hi)
    rw [show o + 46 + i = o + (46 + i) from by omega]
    exact this

/-- a row stored somewhere in a block; the world behind it a letter -/
theorem storeAt {ops : Array Oper} {rest : List Oper} {op : Oper} {a : Act} {w : World} {Q : Exit → Act → World → Prop} (T n : Nat) (hT : (Try.prog.info? T).map (·.size) = some n) (hgd : op.guard = none) (x y : Operand) (ho : op.op = .store T x y)
    (b o : Nat) (cells : Array Value) (hx : a.eval x = .pointer (some ⟨b, o, none⟩)) (hy : a.eval y = .agg cells)
    (ht : w.there b o n) (hi : cells.size = n) (h1 : cells.all (·.oneCell') = true)
    (h : ∀ w', Below b w w' → w'.heap.size = w.heap.size → (∀ k, k ≠ b → w'.heap[k]? = w.heap[k]?) → w'.rangeAt b o cells.toList → (∀ j, j < o ∨ o + n ≤ j → w'.cell? ⟨b, j, none⟩ = w.cell? ⟨b, j, none⟩) → (∀ p, w'.frozen? p = w.frozen? p) → wpList Try.prog ops Q rest (a.put op.dst undef) w') : wpList Try.prog ops Q (op :: rest) a w := by
  refine wpList_store_mid hgd T x y ho b o cells hx hy (by rw [hi]; exact ht) (by rw [hi]; exact hT) h1 ?_
  refine h _ (below_setCellsT b _ _ _) (size_setCellsT b _ _ _) (block_setCellsT b _ _ _) ?_ ?_ ?_
  · exact World.rangeAt_setCells_same _ _ _ _ (by simpa [hi] using ht)
  · intro j hj
    exact World.cell?_setCells_out b cells.toList o w ⟨b, j, none⟩ (fun _ _ => by simp only [Array.length_toList, hi]; exact hj)
  · intro p
    exact World.frozen?_setCells _ _ _ _ _

theorem there_of {w : World} {b o : Nat} {cs : List Value} (h : w.rangeAt b 0 cs) (hz : ∀ j, w.frozen? ⟨b, j, none⟩ = false) (n : Nat) (hn : o + n ≤ cs.length) : w.there b o n := by
  intro j hj
  refine ⟨?_, hz _⟩
  have hlt : o + j < cs.length := by omega
  have := h (o + j) cs[o + j] (List.getElem?_eq_getElem hlt)
  rw [Nat.zero_add] at this
  rw [this]
  rfl

theorem rangeAt_below {w w' : World} {B b o : Nat} {cs : List Value} (h : Below B w w') (hb : b < B) (hr : w.rangeAt b o cs) : w'.rangeAt b o cs :=
  fun j v hv => (h.cell (p := ⟨b, o + j, none⟩) hb).trans (hr j v hv)

theorem build61 {ops : Array Oper} {rest : List Oper} {o : Oper} {a : Act} {w : World} {Q : Exit → Act → World → Prop} (hgd : o.guard = none) (x y : Operand) (ho : o.op = .build 58 #[(0, x), (1, y)])
    (c : Nat) (M : Nat → Nat → Bool) (K : Nat → ByteArray) (f : ByteArray) (C : Array Value) (hC : C = (Value.int .i64 0 :: .int .i64 0 :: grCells c M K).toArray) (hx : a.eval x = .agg C) (hy : a.eval y = .string f)
    (h : wpList Try.prog ops Q rest (a.put o.dst (.agg (cells52 c M K f (fun _ => false)).toArray)) w) : wpList Try.prog ops Q (o :: rest) a w := by
  have hv : ((#[(0, x), (1, y)] : Array (Nat × Operand)).map fun (i, x) => (i, a.eval x)).toList = [(0, .agg (.int .i64 0 :: .int .i64 0 :: grCells c M K).toArray), (1, .string f)] := by simp [hx, hy, hC]
  refine wpList_build hgd 58 #[(0, x), (1, y)] ho (by rw [hv, built61]; rfl) ?_
  rw [hv, built61]
  exact h

set_option maxRecDepth 100000 in
set_option maxHeartbeats 4000000 in
theorem ways_P (G : Gph) (K : Nat → ByteArray) (f : ByteArray) (n6 : G.n ≤ 6) (hf : f.size ≤ 1000) (ks : ∀ i, (K i).size ≤ 1000) (mm : ∀ i c, i < 6 → (G.m i c = true ↔ ∃ d ∈ (K i).data.toList, d.toNat = c)) (w : World) :
    Calls Try.prog 36 #[.agg (.int .i64 0 :: .int .i64 0 :: grCells G.n G.e K).toArray, .string f] w fun e w' => e = .returned (.agg (cells52 G.n G.e K f (begP G (fsOf f))).toArray) ∧ Below w.heap.size w w' := by
  obtain ⟨L, hL⟩ : ∃ L, L = Value.int .i64 0 :: .int .i64 0 :: grCells G.n G.e K := ⟨_, rfl⟩
  rw [← hL]
  have hLl : L.length = 45 := by rw [hL]; simp [grCells_len]
  have HB : ∀ {ops : Array Oper} {rest : List Oper} {o : Oper} {a : Act} {w : World} {Q : Exit → Act → World → Prop} (hgd : o.guard = none) (x y : Operand) (ho : o.op = .build 58 #[(0, x), (1, y)]) (hx : a.eval x = .agg L.toArray) (hy : a.eval y = .string f)
      (h : wpList Try.prog ops Q rest (a.put o.dst (.agg (cells52 G.n G.e K f (fun _ => false)).toArray)) w), wpList Try.prog ops Q (o :: rest) a w :=
    fun hgd x y ho hx hy h => build61 hgd x y ho G.n G.e K f L.toArray (by rw [hL]) hx hy h
  clear hL
  have HWY : Hid (∀ (W : World) (b : Nat) (B : Nat → Bool), b < W.heap.size → W.rangeAt b 0 (cells52 G.n G.e K f B) → Hid (Wy W b 0 G K f B)) := fun W b B h1 h2 => wy_of h1 n6 ks mm h2
  have HPRE : Hid (∀ (B B' : Nat → Bool) (W W' : World) (b : Nat), W.rangeAt b 0 (cells52 G.n G.e K f B) → W'.rangeAt b 46 (bools 6 B') → (∀ j, j < 46 ∨ 46 + 6 ≤ j → W'.cell? ⟨b, j, none⟩ = W.cell? ⟨b, j, none⟩) → W'.rangeAt b 0 (cells52 G.n G.e K f B')) := by
    intro B B' W W' b h1 h2 h3 j v hv
    rw [Nat.zero_add]
    have hj := (List.getElem?_eq_some_iff.1 hv).1
    rw [cells52_len] at hj
    rcases Nat.lt_or_ge j 46 with h | h
    · rw [cells52_pre _ _ _ _ B' B j h] at hv
      rw [h3 j (.inl h)]
      have := h1 j v hv
      rw [Nat.zero_add] at this
      exact this
    · obtain ⟨i, rfl⟩ : ∃ i, j = 46 + i := ⟨j - 46, by omega⟩
      rw [cells52_set _ _ _ _ _ i (by omega)] at hv
      refine h2 i v ?_
      simp only [bools, List.getElem?_map, List.getElem?_range (show i < 6 by omega), Option.map_some]
      exact hv
  have hL1 : (cells52 G.n G.e K f (fun _ => false)).toArray.size = 52 := by simp [cells52_len]
  have hO1 := cells52_one G.n G.e K f (fun _ => false)
  have hl1 := cells52_len G.n G.e K f (fun _ => false)
  have hL2 : (cells52 G.n G.e K f (begP G (fsOf f))).toArray.size = 52 := by simp [cells52_len]
  have hO2 := cells52_one G.n G.e K f (begP G (fsOf f))
  have hl2 := cells52_len G.n G.e K f (begP G (fsOf f))
  have HST := fun b W (h : Hid (Wy W b 0 G K f (fun _ => false))) => stayingP_is b 0 G K f (fun _ => false) (fun _ => true) hf W h
  have HBE : (stayP G (fsOf f) fun _ => true) = begP G (fsOf f) := rfl
  rw [HBE] at HST
  clear HBE
  obtain ⟨D, hD⟩ : ∃ D, D = begP G (fsOf f) := ⟨_, rfl⟩
  rw [← hD] at HST hL2 hO2 hl2
  rw [← hD]
  clear hD
  obtain ⟨C1, hC1⟩ : ∃ C1, C1 = cells52 G.n G.e K f (fun _ => false) := ⟨_, rfl⟩
  obtain ⟨C2, hC2⟩ : ∃ C2, C2 = cells52 G.n G.e K f D := ⟨_, rfl⟩
  have HWY1 : Hid (∀ (W : World) (b : Nat), b < W.heap.size → W.rangeAt b 0 C1 → Hid (Wy W b 0 G K f (fun _ => false))) := by
    intro W b h1 h2
    rw [hC1] at h2
    exact HWY.out W b _ h1 h2
  have HPRE1 : Hid (∀ (W W' : World) (b : Nat), W.rangeAt b 0 C1 → W'.rangeAt b 46 (bools 6 D) → (∀ j, j < 46 ∨ 46 + 6 ≤ j → W'.cell? ⟨b, j, none⟩ = W.cell? ⟨b, j, none⟩) → W'.rangeAt b 0 C2) := by
    intro W W' b h1 h2 h3
    rw [hC1] at h1
    rw [hC2]
    exact HPRE.out _ _ W W' b h1 h2 h3
  rw [← hC1] at hL1 hO1 hl1
  simp only [← hC1] at HB
  rw [← hC2] at hL2 hO2 hl2
  rw [← hC2]
  clear hC1 hC2 HWY HPRE
  have hrL : (w.alloc (.cells L.toArray 55)).rangeAt w.heap.size 0 L := by
    intro j v hv
    have hb := heap_alloc_new w (.cells L.toArray 55)
    rw [Nat.zero_add, cell_of_row _ _ _ _ _ _ hb, List.getElem?_toArray]
    exact hv
  have HTA : Hid (∀ (W : World) (C : Array Value) (t : TypeId) (B : Nat), W.heap.size = B → C.size = 52 → (W.alloc (.cells C t)).there B 0 52) := by
    intro W C t B h1 h2
    subst h1
    exact there_newG W C t 52 h2
  have HFZ : Hid (∀ (W : World) (C : Array Value) (t : TypeId) (B : Nat), W.heap.size = B → ∀ j, (W.alloc (.cells C t)).frozen? ⟨B, j, none⟩ = false) := by
    intro W C t B h1 j
    subst h1
    exact frozen_of_row _ _ _ _ _ (heap_alloc_new W _)
  go_enter Try.func36, Try.ntmps36
  go_wp2_with (first
    | (refine loadT 55 45 Try.size55 Try.row55 (by rfl) _ (by rfl) w.heap.size (by rfl) L (World.rangeAt_alloc hrL _) hLl ?_)
    | (refine HB (by rfl) _ _ (by rfl) (by rfl) (by rfl) ?_)
    | (refine storeAt 58 52 Try.size58 (by rfl) _ _ (by rfl) (w.heap.size + 1 + 1) 0 C1.toArray (by rfl) (by rfl) (HTA.out _ _ _ _ (by simp) rfl) hL1 hO1 ?_; intro w3 hb3 hz3 hk3 hr3 ho3 hf3
       have hs3 : w3.heap.size = w.heap.size + 1 + 1 + 1 := by rw [hz3]; simp
       have hz31 : ∀ j, w3.frozen? ⟨w.heap.size + 1 + 1, j, none⟩ = false := fun j => (hf3 _).trans (HFZ.out _ _ _ _ (by simp) j)
       have ht31 : w3.there (w.heap.size + 1) 0 52 := there_below hb3 (by omega) (World.there_alloc (HTA.out _ _ _ _ (by simp) rfl) _)
       have hbel3 : Below w.heap.size w w3 := (below3 w _ _ _).trans (hb3.mono (by omega))
       have hr3' : w3.rangeAt (w.heap.size + 1 + 1) 0 C1 := by simpa using hr3
       have HR3 : Hid (w3.rangeAt (w.heap.size + 1 + 1) 0 C1) := hr3'
       have HZ3 : Hid (∀ j, w3.frozen? ⟨w.heap.size + 1 + 1, j, none⟩ = false) := hz31
       have HT3 : Hid (w3.there (w.heap.size + 1) 0 52) := ht31
       clear hr3 hr3' hz31 ht31 hb3 hz3 hk3 ho3 hf3)
    | (go_at_call 47; refine (othersP_is (fun _ => false) _).mono ?_; rintro e w4 ⟨rfl, hb4⟩
       have HR4 : Hid (w4.rangeAt (w.heap.size + 1 + 1) 0 C1) := rangeAt_below hb4 (by omega) HR3.out
       have hs4 : w.heap.size + 1 + 1 < w4.heap.size := by have := hb4.size; omega)
    | (go_at_call 46; refine (HST (w.heap.size + 1 + 1) _ (HWY1.out w4 _ hs4 HR4.out)).mono ?_; rintro e w5 ⟨rfl, hb5⟩
       have HR5 : Hid (w5.rangeAt (w.heap.size + 1 + 1) 0 C1) := rangeAt_below hb5 hs4 HR4.out
       have hb35 : Below w3.heap.size w3 w5 := Below.to hb4 hb5
       have HZ5 : Hid (∀ j, w5.frozen? ⟨w.heap.size + 1 + 1, j, none⟩ = false) := fun j => (hb35.frozen (p := ⟨w.heap.size + 1 + 1, j, none⟩) (by simp; omega)).trans (HZ3.out j)
       have HT5 : Hid (w5.there (w.heap.size + 1) 0 52) := there_below hb35 (by omega) HT3.out
       have hbel5 : Below w.heap.size w w5 := Below.to hbel3 hb35)
    | (refine storeAt 56 6 Try.size56 (by rfl) _ _ (by rfl) (w.heap.size + 1 + 1) 46 (six D) (by rfl) (by rfl) (there_of HR5.out HZ5.out 6 (by rw [hl1]; omega)) rfl (bools_one 6 D) ?_; intro w6 hb6 hz6 hk6 hr6 ho6 hf6
       have HR6 : Hid (w6.rangeAt (w.heap.size + 1 + 1) 0 C2) := HPRE1.out w5 w6 _ HR5.out hr6 ho6
       have HT6 : Hid (w6.there (w.heap.size + 1) 0 52) := there_below hb6 (by omega) HT5.out
       have hbel6 : Below w.heap.size w w6 := hbel5.trans (hb6.mono (by omega))
       clear hb6 hz6 hk6 hr6 ho6 hf6)
    | (refine loadT 58 52 Try.size58 Try.row58 (by rfl) _ (by rfl) (w.heap.size + 1 + 1) (by rfl) C2 HR6.out hl2 ?_)
    | (refine storeT 58 52 Try.size58 (by rfl) _ _ (by rfl) (w.heap.size + 1) C2.toArray (by rfl) (by rfl) HT6.out hL2 hO2 ?_; intro w7 hb7 hz7 hk7 hr7))
  exact bodyPost_ret (resultT Try.results36 Try.size58 Try.row58 _ _ (w.heap.size + 1) C2 rfl (by simpa using hr7) hl2) rfl ⟨rfl, hbel6.trans (hb7.mono (by omega))⟩

end Go.Proofs.Ytcfbfdjmcabnkaa

namespace Go.Proofs.Ytcfbfdjmcabnkaa
open Go.RowKit Fw
open Go.Deep (BT)
set_option linter.unusedVariables false

theorem skip_0 (s : ByteArray) (w : World) (hs : s.size ≤ 210) : Calls Try.prog 45 #[.string s, .int .i64 0] w fun e w' => e = .returned (.int .i64 ((scan 122 97 (tl s 0) : Nat) : Int)) ∧ w' = w := by
  have := skip_any s 0 w hs (by omega)
  rw [Nat.zero_add] at this
  exact this

set_option maxRecDepth 100000 in
set_option maxHeartbeats 1000000 in
theorem fair_P (f : ByteArray) (w : World) (hf : f.size ≤ 9223372036854775807) : Calls Try.prog 35 #[.string f] w fun e w' => e = .returned (.bool (fairOk f)) ∧ w' = w := by
  unfold fairOk
  by_cases h : f.size ≤ 2
  · have h1 : (f.size : Int) ≤ 2 := by omega
    have HS := skip_0 f w (by omega)
    have HD : Hid ((decide (f.size ≤ 2) && decide (scan 122 97 (tl f 0) = f.size)) = (((scan 122 97 (tl f 0) : Nat) : Int) == (f.size : Int))) := by
      show _ = _
      rw [show decide (f.size ≤ 2) = true from by simpa using h, Bool.true_and, Bool.eq_iff_iff, decide_eq_true_eq, beq_iff_eq]
      omega
    rw [HD.out]
    clear HD
    obtain ⟨c, hc⟩ : ∃ c, c = scan 122 97 (tl f 0) := ⟨_, rfl⟩
    rw [← hc] at HS
    rw [← hc]
    clear hc
    go_enter Try.func35, Try.ntmps35
    go_wp2_with (go_at_call 45; refine HS.mono ?_; rintro e w1 ⟨rfl, rfl⟩)
    go_ret
    exact ⟨rfl, rfl⟩
  · have h1 : ¬ (f.size : Int) ≤ 2 := by omega
    rw [show decide (f.size ≤ 2) = false from by simpa using h, Bool.false_and]
    go_enter Try.func35, Try.ntmps35
    go_wp2_with fail
    go_ret
    exact ⟨rfl, rfl⟩

theorem Try.size63 : (Try.prog.info? 63).map (·.size) = some 57 := by kernel_rfl
theorem Try.row63 : ∃ d, Try.prog.underlying 63 = some d ∧ d.isRow = true := ⟨_, Try.underlying63, rfl⟩

def rest56 : List Value := .int .i64 0 :: .int .i64 0 :: (rest43 ++ (.string ByteArray.empty :: (bools 6 (fun _ => false) ++ [.int .i64 0, .int .i64 0, .slice none 0 0, .int .i64 0])))
theorem rest56_len : rest56.length = 56 := rfl
theorem rest56_one : ∀ v ∈ rest56, v.oneCell' = true := by
  intro v hv
  simp only [rest56, List.mem_cons, List.mem_append, List.not_mem_nil, or_false] at hv
  rcases hv with rfl | rfl | hv | rfl | hv | rfl | rfl | rfl | rfl
  · rfl
  · rfl
  · exact rest43_one v hv
  · rfl
  · simp only [bools, List.mem_map] at hv
    obtain ⟨k, _, rfl⟩ := hv
    rfl
  · rfl
  · rfl
  · rfl
  · rfl
theorem built66e (e : Int) : Try.prog.built 63 [(0, .int .i64 e)] = some (.int .i64 e :: rest56).toArray := by kernel_rfl
theorem built66 (c : Nat) (M : Nat → Nat → Bool) (K : Nat → ByteArray) (f : ByteArray) (B : Nat → Bool) (a b d e : Value) : Try.prog.built 63 [(1, .agg (cells52 c M K f B).toArray), (2, .agg #[a, b, d, e])] = some (.int .i64 0 :: (cells52 c M K f B ++ [a, b, d, e])).toArray := by kernel_rfl

theorem build66e {ops : Array Oper} {rest : List Oper} {o : Oper} {a : Act} {w : World} {Q : Exit → Act → World → Prop} (hgd : o.guard = none) (x : Operand) (ho : o.op = .build 63 #[(0, x)])
    (e : Int) (hx : a.eval x = .int .i64 e)
    (h : wpList Try.prog ops Q rest (a.put o.dst (.agg (.int .i64 e :: rest56).toArray)) w) : wpList Try.prog ops Q (o :: rest) a w := by
  have hv : ((#[(0, x)] : Array (Nat × Operand)).map fun (i, x) => (i, a.eval x)).toList = [(0, .int .i64 e)] := by simp [hx]
  refine wpList_build hgd 63 #[(0, x)] ho (by rw [hv, built66e]; rfl) ?_
  rw [hv, built66e]
  exact h

theorem size57 (e : Int) (cs : List Value) (h : cs.length = 56) : (Value.int .i64 e :: cs).toArray.size = 57 := by simp [h]
theorem one57 (e : Int) (cs : List Value) (h : ∀ v ∈ cs, v.oneCell' = true) : (Value.int .i64 e :: cs).toArray.all (·.oneCell') = true := by
  refine all_oneCell_toArray fun v hv => ?_
  simp only [List.mem_cons] at hv
  rcases hv with rfl | hv
  · rfl
  · exact h v hv

set_option maxRecDepth 100000 in
set_option maxHeartbeats 4000000 in
theorem question_long (g f s : ByteArray) (w : World) (h : 210 < g.size ∨ 30 < s.size) :
    Calls Try.prog 27 #[.string g, .string f, .string s] w fun e w' => e = .returned (.agg (.int .i64 1 :: rest56).toArray) ∧ Below w.heap.size w w' := by
  have HT := fun (C : Array Value) (h : C.size = 57) => there_newG w C 63 57 h
  have hr := rest56_len
  have HO := rest56_one
  have HO' : Hid (∀ v ∈ rest56, v.oneCell' = true) := HO
  clear HO
  obtain ⟨R, hR⟩ : ∃ R, R = rest56 := ⟨_, rfl⟩
  have HB : ∀ {ops : Array Oper} {rest : List Oper} {o : Oper} {a : Act} {w : World} {Q : Exit → Act → World → Prop} (hgd : o.guard = none) (x : Operand) (ho : o.op = .build 63 #[(0, x)]) (e : Int) (hx : a.eval x = .int .i64 e)
    (h : wpList Try.prog ops Q rest (a.put o.dst (.agg (.int .i64 e :: R).toArray)) w), wpList Try.prog ops Q (o :: rest) a w := by
    intro _ _ _ _ _ _ hgd x ho e hx h
    rw [hR] at h
    exact build66e hgd x ho e hx h
  rw [← hR] at hr HO'
  rw [← hR]
  clear hR
  by_cases h1 : 210 < g.size
  · have h2 : (210 : Int) < (g.size : Int) := by omega
    go_enter Try.func27, Try.ntmps27
    go_wp2_with (first
      | (refine HB (by rfl) _ (by rfl) 1 (by rfl) ?_)
      | (refine storeT 63 57 Try.size63 (by rfl) _ _ (by rfl) w.heap.size (Value.int .i64 1 :: R).toArray (by rfl) (by rfl) (HT _ rfl) (size57 _ _ hr) (one57 _ _ HO'.out) ?_; intro w7 hb7 hz7 hk7 hr7))
    exact bodyPost_ret (resultT Try.results27 Try.size63 Try.row63 _ _ w.heap.size (Value.int .i64 1 :: R) rfl (by simpa using hr7) (by simp [hr])) rfl ⟨rfl, (below1 w _).trans hb7⟩
  · have h2 : ¬ (210 : Int) < (g.size : Int) := by omega
    have h3 : (30 : Int) < (s.size : Int) := by omega
    go_enter Try.func27, Try.ntmps27
    go_wp2_with (first
      | (refine HB (by rfl) _ (by rfl) 1 (by rfl) ?_)
      | (refine storeT 63 57 Try.size63 (by rfl) _ _ (by rfl) w.heap.size (Value.int .i64 1 :: R).toArray (by rfl) (by rfl) (HT _ rfl) (size57 _ _ hr) (one57 _ _ HO'.out) ?_; intro w7 hb7 hz7 hk7 hr7))
    exact bodyPost_ret (resultT Try.results27 Try.size63 Try.row63 _ _ w.heap.size (Value.int .i64 1 :: R) rfl (by simpa using hr7) (by simp [hr])) rfl ⟨rfl, (below1 w _).trans hb7⟩

end Go.Proofs.Ytcfbfdjmcabnkaa

namespace Go.Proofs.Ytcfbfdjmcabnkaa
open Go.RowKit Fw
open Go.Deep (BT)
set_option linter.unusedVariables false

set_option maxRecDepth 100000 in
set_option maxHeartbeats 4000000 in
theorem question_graph (g f s : ByteArray) (w : World) (hg : g.size ≤ 210) (hs : s.size ≤ 30) (E : Nat) (hE : (chk g).1 = E) (h0 : E ≠ 0) :
    Calls Try.prog 27 #[.string g, .string f, .string s] w fun e w' => e = .returned (.agg (.int .i64 (E : Int) :: rest56).toArray) ∧ Below w.heap.size w w' := by
  have HT0 := fun (C : Array Value) (h : C.size = 57) => there_newG w C 63 57 h
  have hr := rest56_len
  have HO' : Hid (∀ v ∈ rest56, v.oneCell' = true) := rest56_one
  obtain ⟨R, hR⟩ : ∃ R, R = rest56 := ⟨_, rfl⟩
  have HB : ∀ {ops : Array Oper} {rest : List Oper} {o : Oper} {a : Act} {w : World} {Q : Exit → Act → World → Prop} (hgd : o.guard = none) (x : Operand) (ho : o.op = .build 63 #[(0, x)]) (e : Int) (hx : a.eval x = .int .i64 e)
    (h : wpList Try.prog ops Q rest (a.put o.dst (.agg (.int .i64 e :: R).toArray)) w), wpList Try.prog ops Q (o :: rest) a w := by
    intro _ _ _ _ _ _ hgd x ho e hx h
    rw [hR] at h
    exact build66e hgd x ho e hx h
  rw [← hR] at hr HO'
  rw [← hR]
  clear hR
  have HE : Hid ((chkAll g).1 = E) := by show _ = _; rw [chkAll, if_pos hg]; exact hE
  have h1 : ¬ (210 : Int) < (g.size : Int) := by omega
  have h2 : ¬ (30 : Int) < (s.size : Int) := by omega
  have hne : ((E : Int) != 0) = true := by rw [bne_iff_ne]; omega
  clear hE
  go_enter Try.func27, Try.ntmps27
  go_wp2_with (first
    | (go_at_call 34; refine (loadGraph_all g _).mono ?_; rintro e w1 ⟨⟨cs, rfl, hl, h1, _⟩, hb1⟩
       rw [HE.out]
       have HC : Hid (∀ v ∈ cs, v.oneCell' = true) := h1
       clear h1
       have hb01 : Below w.heap.size w w1 := Below.past hb1
       have HT1 : Hid (w1.there w.heap.size 0 57) := there_below hb1 (by simp) (HT0 _ rfl))
    | (refine storeT 55 45 Try.size55 (by rfl) _ _ (by rfl) w1.heap.size _ (by rfl) (by rfl) (there_new _ _ _ rfl) (size_cons43 _ _ _ hl) (one_cons43 _ _ _ rfl rfl HC.out) ?_; intro w2 hb2 hz2 hk2 hr2
       have c0 : w2.cell? ⟨w1.heap.size, 0, none⟩ = _ := hr2 0 _ rfl
       have HR2 : Hid (w2.rangeAt w1.heap.size 0 _) := hr2
       have hbel2 : Below w.heap.size w w2 := hb01.trans (((below1 w1 _).trans hb2).mono hb01.size)
       have HT2 : Hid (w2.there w.heap.size 0 57) := there_below ((below1 w1 _).trans hb2) (Nat.lt_of_lt_of_le (by simp) hb1.size) HT1.out
       have hs2 : w.heap.size < w2.heap.size := by have q := hb1.size; rw [hz2]; simp at q ⊢; omega
       clear hr2 hb2 hz2 hk2)
    | (refine HB (by rfl) _ (by rfl) (E : Int) (by rfl) ?_)
    | (refine storeT 63 57 Try.size63 (by rfl) _ _ (by rfl) w.heap.size (Value.int .i64 (E : Int) :: R).toArray (by rfl) (by rfl) HT2.out (size57 _ _ hr) (one57 _ _ HO'.out) ?_; intro w7 hb7 hz7 hk7 hr7))
  exact bodyPost_ret (resultT Try.results27 Try.size63 Try.row63 _ _ w.heap.size (Value.int .i64 (E : Int) :: R) rfl (by simpa using hr7) (by simp [hr])) rfl ⟨rfl, hbel2.trans hb7⟩

set_option maxRecDepth 100000 in
set_option maxHeartbeats 4000000 in
theorem question_fair (g f s : ByteArray) (w : World) (hg : g.size ≤ 210) (hs : s.size ≤ 30) (hf : f.size ≤ 9223372036854775807) (hE : (chk g).1 = 0) (hk : fairOk f = false) :
    Calls Try.prog 27 #[.string g, .string f, .string s] w fun e w' => e = .returned (.agg (.int .i64 4 :: rest56).toArray) ∧ Below w.heap.size w w' := by
  have HT0 := fun (C : Array Value) (h : C.size = 57) => there_newG w C 63 57 h
  have hr := rest56_len
  have HO' : Hid (∀ v ∈ rest56, v.oneCell' = true) := rest56_one
  obtain ⟨R, hR⟩ : ∃ R, R = rest56 := ⟨_, rfl⟩
  have HB : ∀ {ops : Array Oper} {rest : List Oper} {o : Oper} {a : Act} {w : World} {Q : Exit → Act → World → Prop} (hgd : o.guard = none) (x : Operand) (ho : o.op = .build 63 #[(0, x)]) (e : Int) (hx : a.eval x = .int .i64 e)
    (h : wpList Try.prog ops Q rest (a.put o.dst (.agg (.int .i64 e :: R).toArray)) w), wpList Try.prog ops Q (o :: rest) a w := by
    intro _ _ _ _ _ _ hgd x ho e hx h
    rw [hR] at h
    exact build66e hgd x ho e hx h
  rw [← hR] at hr HO'
  rw [← hR]
  clear hR
  have HE : Hid ((chkAll g).1 = 0) := by show _ = _; rw [chkAll, if_pos hg]; exact hE
  have HFP := fun W => fair_P f W hf
  rw [hk] at HFP
  have h1 : ¬ (210 : Int) < (g.size : Int) := by omega
  have h2 : ¬ (30 : Int) < (s.size : Int) := by omega
  clear hE hk
  go_enter Try.func27, Try.ntmps27
  go_wp2_with (first
    | (go_at_call 34; refine (loadGraph_all g _).mono ?_; rintro e w1 ⟨⟨cs, rfl, hl, h1, _⟩, hb1⟩
       rw [HE.out]
       have HC : Hid (∀ v ∈ cs, v.oneCell' = true) := h1
       clear h1
       have hb01 : Below w.heap.size w w1 := Below.past hb1
       have HT1 : Hid (w1.there w.heap.size 0 57) := there_below hb1 (by simp) (HT0 _ rfl))
    | (refine storeT 55 45 Try.size55 (by rfl) _ _ (by rfl) w1.heap.size _ (by rfl) (by rfl) (there_new _ _ _ rfl) (size_cons43 _ _ _ hl) (one_cons43 _ _ _ rfl rfl HC.out) ?_; intro w2 hb2 hz2 hk2 hr2
       have c0 : w2.cell? ⟨w1.heap.size, 0, none⟩ = _ := hr2 0 _ rfl
       have HR2 : Hid (w2.rangeAt w1.heap.size 0 _) := hr2
       have hbel2 : Below w.heap.size w w2 := hb01.trans (((below1 w1 _).trans hb2).mono hb01.size)
       have HT2 : Hid (w2.there w.heap.size 0 57) := there_below ((below1 w1 _).trans hb2) (Nat.lt_of_lt_of_le (by simp) hb1.size) HT1.out
       have hs2 : w.heap.size < w2.heap.size := by have q := hb1.size; rw [hz2]; simp at q ⊢; omega
       clear hr2 hb2 hz2 hk2)
    | (go_at_call 35; refine (HFP _).mono ?_; rintro e w3 ⟨rfl, rfl⟩)
    | (refine HB (by rfl) _ (by rfl) 4 (by rfl) ?_)
    | (refine storeT 63 57 Try.size63 (by rfl) _ _ (by rfl) w.heap.size (Value.int .i64 4 :: R).toArray (by rfl) (by rfl) HT2.out (size57 _ _ hr) (one57 _ _ HO'.out) ?_; intro w7 hb7 hz7 hk7 hr7))
  exact bodyPost_ret (resultT Try.results27 Try.size63 Try.row63 _ _ w.heap.size (Value.int .i64 4 :: R) rfl (by simpa using hr7) (by simp [hr])) rfl ⟨rfl, hbel2.trans hb7⟩

set_option maxRecDepth 100000 in
set_option maxHeartbeats 4000000 in
theorem question_form (g f s : ByteArray) (w : World) (hg : g.size ≤ 210) (hs : s.size ≤ 30) (hf : f.size ≤ 9223372036854775807) (hE : (chk g).1 = 0) (hk : fairOk f = true) (E : Nat) (hE2 : (frm s).1 = E) (h0 : E ≠ 0) :
    Calls Try.prog 27 #[.string g, .string f, .string s] w fun e w' => e = .returned (.agg (.int .i64 (E : Int) :: rest56).toArray) ∧ Below w.heap.size w w' := by
  have HT0 := fun (C : Array Value) (h : C.size = 57) => there_newG w C 63 57 h
  have hr := rest56_len
  have HO' : Hid (∀ v ∈ rest56, v.oneCell' = true) := rest56_one
  obtain ⟨R, hR⟩ : ∃ R, R = rest56 := ⟨_, rfl⟩
  have HB : ∀ {ops : Array Oper} {rest : List Oper} {o : Oper} {a : Act} {w : World} {Q : Exit → Act → World → Prop} (hgd : o.guard = none) (x : Operand) (ho : o.op = .build 63 #[(0, x)]) (e : Int) (hx : a.eval x = .int .i64 e)
    (h : wpList Try.prog ops Q rest (a.put o.dst (.agg (.int .i64 e :: R).toArray)) w), wpList Try.prog ops Q (o :: rest) a w := by
    intro _ _ _ _ _ _ hgd x ho e hx h
    rw [hR] at h
    exact build66e hgd x ho e hx h
  rw [← hR] at hr HO'
  rw [← hR]
  clear hR
  have HE : Hid ((chkAll g).1 = 0) := by show _ = _; rw [chkAll, if_pos hg]; exact hE
  have HE2 : Hid ((frmAll s).1 = E) := by show _ = _; rw [frmAll, if_pos hs]; exact hE2
  have HFP := fun W => fair_P f W hf
  rw [hk] at HFP
  have h1 : ¬ (210 : Int) < (g.size : Int) := by omega
  have h2 : ¬ (30 : Int) < (s.size : Int) := by omega
  have hne : ((E : Int) != 0) = true := by rw [bne_iff_ne]; omega
  clear hE hk hE2
  go_enter Try.func27, Try.ntmps27
  go_wp2_with (first
    | (go_at_call 34; refine (loadGraph_all g _).mono ?_; rintro e w1 ⟨⟨cs, rfl, hl, h1, _⟩, hb1⟩
       rw [HE.out]
       have HC : Hid (∀ v ∈ cs, v.oneCell' = true) := h1
       clear h1
       have hb01 : Below w.heap.size w w1 := Below.past hb1
       have HT1 : Hid (w1.there w.heap.size 0 57) := there_below hb1 (by simp) (HT0 _ rfl))
    | (refine storeT 55 45 Try.size55 (by rfl) _ _ (by rfl) w1.heap.size _ (by rfl) (by rfl) (there_new _ _ _ rfl) (size_cons43 _ _ _ hl) (one_cons43 _ _ _ rfl rfl HC.out) ?_; intro w2 hb2 hz2 hk2 hr2
       have c0 : w2.cell? ⟨w1.heap.size, 0, none⟩ = _ := hr2 0 _ rfl
       have HR2 : Hid (w2.rangeAt w1.heap.size 0 _) := hr2
       have hbel2 : Below w.heap.size w w2 := hb01.trans (((below1 w1 _).trans hb2).mono hb01.size)
       have HT2 : Hid (w2.there w.heap.size 0 57) := there_below ((below1 w1 _).trans hb2) (Nat.lt_of_lt_of_le (by simp) hb1.size) HT1.out
       have hs2 : w.heap.size < w2.heap.size := by have q := hb1.size; rw [hz2]; simp at q ⊢; omega
       clear hr2 hb2 hz2 hk2)
    | (go_at_call 35; refine (HFP _).mono ?_; rintro e w3 ⟨rfl, rfl⟩)
    | (go_at_call 29; refine (loadFormula_tree s _).mono ?_; rintro e w4 ⟨hb4, aa, nn, cap, rr, rfl, _⟩
       rw [HE2.out]
       have hbel4 : Below w.heap.size w w4 := Below.to hbel2 hb4
       have HT4 : Hid (w4.there w.heap.size 0 57) := there_below hb4 hs2 HT2.out)
    | (refine HB (by rfl) _ (by rfl) (E : Int) (by rfl) ?_)
    | (refine storeT 63 57 Try.size63 (by rfl) _ _ (by rfl) w.heap.size (Value.int .i64 (E : Int) :: R).toArray (by rfl) (by rfl) (show Hid _ from World.there_alloc HT4.out _).out (size57 _ _ hr) (one57 _ _ HO'.out) ?_; intro w7 hb7 hz7 hk7 hr7))
  exact bodyPost_ret (resultT Try.results27 Try.size63 Try.row63 _ _ w.heap.size (Value.int .i64 (E : Int) :: R) rfl (by simpa using hr7) (by simp [hr])) rfl ⟨rfl, (hbel4.alloc hbel4.size _).trans hb7⟩

end Go.Proofs.Ytcfbfdjmcabnkaa

namespace Go.Proofs.Ytcfbfdjmcabnkaa
open Go.RowKit Fw
open Go.Deep (BT)
set_option linter.unusedVariables false

theorem nr_of {w : World} {base n cap : Nat} {a : Option Addr} {ns : List Nd} (hown : w.ownsRow base 84 5 (.slice a n cap) ns.length (flatN ns)) (hl : 0 < ns.length) : ∃ g, a = some ⟨g, 0, none⟩ ∧ n = ns.length ∧ base ≤ g ∧ Nr w g ns := by
  obtain ⟨g, cap2, hv, hb, hlt⟩ := hown.form hl
  injection hv with h1 h2 h3
  refine ⟨g, h1, h2, hb, by omega, ?_⟩
  intro i z hz j u hu
  have hj : j < 5 := by
    have := (List.getElem?_eq_some_iff.1 hu).1
    simpa [five] using this
  have hc := hown.cells (g := g) (by rw [h1]; rfl) (i * 5 + j) u (by rw [flatN_get z ns i j hz hj]; exact hu)
  rw [Go.WideShapes.add_plain, Nat.zero_add] at hc
  exact hc

theorem wp_build66 {op : Oper} {a : Act} {w : World} {KK : Act → World → Prop} {Q : Exit → Act → World → Prop} (x y : Operand) (ho : op.op = .build 63 #[(1, x), (2, y)]) (C2 : List Value) (HC2 : Hid (∃ c M K f B, C2 = cells52 c M K f B)) (p q r t : Value)
    (hx : a.eval x = .agg C2.toArray) (hy : a.eval y = .agg #[p, q, r, t]) (h : KK (a.put op.dst (.agg (.int .i64 0 :: (C2 ++ [p, q, r, t])).toArray)) w) : op.wp Try.prog a w KK Q := by
  obtain ⟨c, M, K, f, B, rfl⟩ := HC2.out
  have hv : ((#[(1, x), (2, y)] : Array (Nat × Operand)).map fun (i, x) => (i, a.eval x)).toList = [(1, .agg (cells52 c M K f B).toArray), (2, .agg #[p, q, r, t])] := by simp [hx, hy]
  refine wp_build 63 #[(1, x), (2, y)] ho (by rw [hv, built66]; rfl) ?_
  rw [hv, built66]
  exact h

theorem yld58 {ops : Array Oper} {S : World → Prop} {op : Oper} {a : Act} (H : Nat) (L : List Value) (hl : L.length = 45) (hw : Region.wanted op (yielded ops a.tmps) = true) (x : Operand) (ho : op.op = .load 55 x) (hx : a.eval x = .pointer (some ⟨H, 0, none⟩)) (hS : ∀ w, S w → w.rangeAt H 0 L) : YieldsIf Try.prog ops S op (.agg L.toArray) a := by
  obtain ⟨d, hu, hd⟩ := Try.row55
  exact yieldsIf_load_mid hw 55 x ho H 0 hx L d hS hu hd (by rw [hl]; exact Try.size55)

theorem rangeAt_block {w w' : World} {R b o : Nat} {cs : List Value} (hk : ∀ k, k ≠ R → w'.heap[k]? = w.heap[k]?) (hb : b ≠ R) (hr : w.rangeAt b o cs) : w'.rangeAt b o cs :=
  fun j v hv => (cell_block hk hb (o + j)).trans (hr j v hv)

/-- what reading a good question gives -/
def QOk (g f s : ByteArray) (w : World) (e : Ending) (w' : World) : Prop := Below w.heap.size w w' ∧ ∃ (y : Value) (gg cap ri : Nat) (ns : List Nd), y.oneCell' = true ∧ e = .returned (.agg (.int .i64 0 :: (cells52 (gphOf g).n (gphOf g).e (mrk g (run g 6 0).2.2) f (begP (gphOf g) (fsOf f)) ++ [.int .i64 0, y, .slice (some ⟨gg, 0, none⟩) ns.length cap, .int .i64 (ri : Int)])).toArray) ∧
      Nr w' gg ns ∧ Clo ns ∧ ns.length ≤ 30 ∧ Rep ns (ptAll s).2.2 ri ∧ good (ptAll s).2.2

theorem QOk.of {g f s : ByteArray} {w w' : World} {C2 C3 : List Value} {y : Value} {gg cap ri : Nat} {ns : List Nd} (hC2 : C2 = cells52 (gphOf g).n (gphOf g).e (mrk g (run g 6 0).2.2) f (begP (gphOf g) (fsOf f))) (hC3 : C3 = Value.int .i64 0 :: (C2 ++ [.int .i64 0, y, .slice (some ⟨gg, 0, none⟩) ns.length cap, .int .i64 (ri : Int)])) (hy : y.oneCell' = true) (hb : Below w.heap.size w w') (hn : Nr w' gg ns) (hc : Clo ns) (hl : ns.length ≤ 30) (hr : Rep ns (ptAll s).2.2 ri) (hg : good (ptAll s).2.2) :
    QOk g f s w (.returned (.agg C3.toArray)) w' := by
  subst hC2 hC3
  exact ⟨hb, y, gg, cap, ri, ns, hy, rfl, hn, hc, hl, hr, hg⟩

set_option maxRecDepth 100000 in
set_option maxHeartbeats 4000000 in
theorem question_ok (g f s : ByteArray) (w : World) (hg : g.size ≤ 210) (hs : s.size ≤ 30) (hf : f.size ≤ 9223372036854775807) (hE : (chk g).1 = 0) (hk : fairOk f = true) (hE2 : (frm s).1 = 0) :
    Calls Try.prog 27 #[.string g, .string f, .string s] w fun e w' => QOk g f s w e w' := by
  have HT0 := fun (C : Array Value) (h : C.size = 57) => there_newG w C 63 57 h
  obtain ⟨hz1, hz2⟩ := chk_zero hE
  have HE : Hid (chkAll g = (0, 0)) := by show _ = _; rw [chkAll, if_pos hg]; exact chk_good hz1 hz2
  have HE2 : Hid ((frmAll s).1 = 0) := by show _ = _; rw [frmAll, if_pos hs]; exact hE2
  have HFP := fun W => fair_P f W hf
  rw [hk] at HFP
  have h1 : ¬ (210 : Int) < (g.size : Int) := by omega
  have h2 : ¬ (30 : Int) < (s.size : Int) := by omega
  have hf3 : f.size ≤ 1000 := by
    simp only [fairOk, Bool.and_eq_true, decide_eq_true_eq] at hk
    omega
  have hn6 : (gphOf g).n ≤ 6 := (run_starts g 6 0 (by omega)).1
  have HWP := fun W => ways_P (gphOf g) (mrk g (run g 6 0).2.2) f hn6 hf3 (fun i => mrk_size g _ i hg) (fun i c _ => by
    show (List.any _ _) = true ↔ _
    simp only [List.any_eq_true, beq_iff_eq]) W
  obtain ⟨L, hL⟩ : ∃ L, L = grCells (gphOf g).n (gphOf g).e (mrk g (run g 6 0).2.2) := ⟨_, rfl⟩
  have HLG : Hid (grCells (run g 6 0).2.2.length (mat g (run g 6 0).2.2) (mrk g (run g 6 0).2.2) = L) := hL.symm
  have hLl : L.length = 43 := by rw [hL]; exact grCells_len _ _ _
  have HLo : Hid (∀ v ∈ L, v.oneCell' = true) := by rw [hL]; exact grCells_one _ _ _
  obtain ⟨C2, hC2⟩ : ∃ C2, C2 = cells52 (gphOf g).n (gphOf g).e (mrk g (run g 6 0).2.2) f (begP (gphOf g) (fsOf f)) := ⟨_, rfl⟩
  have HC2 : Hid (∃ c M K f B, C2 = cells52 c M K f B) := ⟨_, _, _, _, _, hC2⟩
  have hC2l : C2.length = 52 := by rw [hC2]; exact cells52_len _ _ _ _ _
  have HC2o : Hid (C2.toArray.all (·.oneCell') = true) := by show _ = _; rw [hC2]; exact cells52_one _ _ _ _ _
  rw [← hL, ← hC2] at HWP
  have HC2E : Hid (C2 = cells52 (gphOf g).n (gphOf g).e (mrk g (run g 6 0).2.2) f (begP (gphOf g) (fsOf f))) := hC2
  clear hE hk hE2 hL hC2 hz1 hz2
  go_enter Try.func27, Try.ntmps27
  go_wp2_with (first
    | (go_at_call 34; refine (loadGraph_all g _).mono ?_; rintro e w1 ⟨⟨cs, rfl, hl, h1, hcs⟩, hb1⟩
       obtain rfl : cs = L := (hcs (by rw [HE.out])).trans HLG.out
       rw [HE.out]
       clear h1 hcs hl
       have hb01 : Below w.heap.size w w1 := Below.past hb1
       have HT1 : Hid (w1.there w.heap.size 0 57) := there_below hb1 (by simp) (HT0 _ rfl))
    | (refine storeT 55 45 Try.size55 (by rfl) _ _ (by rfl) w1.heap.size _ (by rfl) (by rfl) (there_new _ _ _ rfl) (size_cons43 _ _ _ hLl) (one_cons43 _ _ _ rfl rfl HLo.out) ?_; intro w2 hb2 hz2 hk2 hr2
       have c0 : w2.cell? ⟨w1.heap.size, 0, none⟩ = _ := hr2 0 _ rfl
       have HR2 : Hid (w2.rangeAt w1.heap.size 0 (.int .i64 0 :: .int .i64 0 :: cs)) := hr2
       have hbel2 : Below w.heap.size w w2 := hb01.trans (((below1 w1 _).trans hb2).mono hb01.size)
       have HT2 : Hid (w2.there w.heap.size 0 57) := there_below ((below1 w1 _).trans hb2) (Nat.lt_of_lt_of_le (by simp) hb1.size) HT1.out
       have hs2 : w.heap.size < w2.heap.size := by have q := hb1.size; rw [hz2]; simp at q ⊢; omega
       have hs21 : w1.heap.size < w2.heap.size := by rw [hz2]; simp
       clear hr2 hb2 hz2 hk2)
    | (go_at_call 35; refine (HFP _).mono ?_; rintro e w3 ⟨rfl, rfl⟩)
    | (go_at_call 29; refine (loadFormula_tree s _).mono ?_; rintro e w4 ⟨hb4, aa, nn, cap, rr, rfl, hfo⟩
       obtain ⟨_, ns, ri, rfl, hown, hrep, hgood, _, hclo, hnl⟩ := hfo HE2.out
       rw [HE2.out]
       have hbel4 : Below w.heap.size w w4 := Below.to hbel2 hb4
       have HT4 : Hid (w4.there w.heap.size 0 57) := there_below hb4 hs2 HT2.out
       have HR4 : Hid (w4.rangeAt w1.heap.size 0 (.int .i64 0 :: .int .i64 0 :: cs)) := rangeAt_below hb4 hs21 HR2.out
       have HOWN : Hid (w4.ownsRow _ 84 5 (.slice aa nn cap) ns.length (flatN ns)) := hown
       have HREP : Hid (Rep ns (ptAll s).2.2 ri) := hrep
       have HGOOD : Hid (good (ptAll s).2.2) := hgood
       have HCLO : Hid (Clo ns) := hclo
       clear hown hrep hgood hclo hfo))
  have hsz4 := hb4.size
  have hpos : 0 < ns.length := by have := (HREP.out.lt HGOOD.out).1; omega
  obtain ⟨gg, rfl, rfl, hbg, hnr⟩ := nr_of HOWN.out hpos
  have HNR : Hid (Nr w4 gg ns) := hnr
  clear hnr HOWN
  obtain ⟨y, hy⟩ : ∃ y, y = Value.int IntKind.i64 ((frmAll s).2 : Nat) := ⟨_, rfl⟩
  have hyo : y.oneCell' = true := by rw [hy]; rfl
  rw [← hy]
  clear hy
  generalize hW : w4.alloc (Obj.cells #[Value.int IntKind.i64 0, y, Value.slice (some ⟨gg, 0, none⟩) ns.length cap, Value.int IntKind.i64 (ri : Int)] 61) = W
  have m0 : W.cell? ⟨w4.heap.size, 0, none⟩ = some (.int .i64 0) := by rw [← hW]; simp
  have m1 : W.cell? ⟨w4.heap.size, 1, none⟩ = some y := by rw [← hW]; simp
  have m2 : W.cell? ⟨w4.heap.size, 2, none⟩ = some (.slice (some ⟨gg, 0, none⟩) ns.length cap) := by rw [← hW]; simp
  have m3 : W.cell? ⟨w4.heap.size, 3, none⟩ = some (.int .i64 (ri : Int)) := by rw [← hW]; simp
  have hbW : Below w4.heap.size w4 W := by rw [← hW]; exact (Below.refl _ _).alloc (Nat.le_refl _) _
  have hwb : w4.heap.size < W.heap.size := by rw [← hW]; simp
  clear hW
  have HRW : Hid (W.rangeAt w1.heap.size 0 (.int .i64 0 :: .int .i64 0 :: cs)) := rangeAt_below hbW (by omega) HR4.out
  have HTW : Hid (W.there w.heap.size 0 57) := there_below hbW (by omega) HT4.out
  have hbelW : Below w.heap.size w W := Below.to hbel4 hbW
  have HNW : Hid (Nr W gg ns) := HNR.out.below hbW HNR.out.lt
  have e1 : w1.heap.size ≠ w.heap.size := by have q := hb1.size; simp at q; omega
  have e2 : w4.heap.size ≠ w.heap.size := by omega
  refine wp_region_held_drew (S := fun w' => w'.rangeAt w1.heap.size 0 (.int .i64 0 :: .int .i64 0 :: cs) ∧ w'.cell? ⟨w4.heap.size, 0, none⟩ = some (.int .i64 0) ∧ w'.cell? ⟨w4.heap.size, 1, none⟩ = some y ∧ w'.cell? ⟨w4.heap.size, 2, none⟩ = some (.slice (some ⟨gg, 0, none⟩) ns.length cap) ∧ w'.cell? ⟨w4.heap.size, 3, none⟩ = some (.int .i64 (ri : Int))) (by kernel_rfl) ⟨HRW.out, m0, m1, m2, m3⟩ (fun hHeld => ?_)
  refine wpAnyH_take (i := 0) rfl (by kernel_rfl) (by kernel_rfl) (by kernel_rfl) (fun _ _ _ h => h) (yld58 w1.heap.size (.int .i64 0 :: .int .i64 0 :: cs) (by simp [hLl]) (by rfl) _ (by rfl) (by rfl) (fun _ h => h.1)) hHeld ?_
  simp only [Act.put, List.setIfInBounds_toArray]
  refine wpAnyH_take (i := 1) (v := ?v1) rfl (by kernel_rfl) (by kernel_rfl) (by kernel_rfl) (fun _ _ _ h => h) (Or.inl ⟨by rfl, ?hy1⟩) hHeld ?rest1
  case hy1 =>
    intro W' hW'
    obtain ⟨_, hW0, hW1, hW2, hW3⟩ := hW'
    go_simp
    try with_reducible rfl
  simp only [Act.put]
  refine wpAnyH_take (i := 3) (v := ?v2) rfl (by kernel_rfl) (by kernel_rfl) (by kernel_rfl) (fun _ _ _ h => h) (Or.inl ⟨by rfl, ?hy2⟩) hHeld ?rest2
  case hy2 =>
    intro W' hW'
    obtain ⟨_, hW0, hW1, hW2, hW3⟩ := hW'
    go_simp
    try with_reducible rfl
  simp only [Act.put]
  refine wpAnyH_ready (rs := [2]) (by kernel_rfl) (by simp) ?_
  refine AllReadyH.cons rfl (fun KK hKK => ?_) AllReadyH.nil
  go_simp
  refine (HWP _).mono ?_
  rintro e w5 ⟨rfl, hb5⟩
  have hc5 : Below W.heap.size W w5 := Below.dr hb5
  have HR5 : Hid (w5.rangeAt w1.heap.size 0 (.int .i64 0 :: .int .i64 0 :: cs)) := rangeAt_below hc5 (by omega) HRW.out
  have HT5 : Hid (w5.there w.heap.size 0 57) := there_below hc5 (by omega) HTW.out
  have p0 := (hc5.cell (p := ⟨w4.heap.size, 0, none⟩) hwb).trans m0
  have p1 := (hc5.cell (p := ⟨w4.heap.size, 1, none⟩) hwb).trans m1
  have p2 := (hc5.cell (p := ⟨w4.heap.size, 2, none⟩) hwb).trans m2
  have p3 := (hc5.cell (p := ⟨w4.heap.size, 3, none⟩) hwb).trans m3
  clear hHeld
  go_wp2_with fail
  refine hKK.out _ _ ⟨HR5.out, p0, p1, p2, p3⟩ (fun hHeld => ?_)
  clear hKK KK
  refine wpAnyH_ready (rs := [4]) (by kernel_rfl) (by simp) ?_
  refine AllReadyH.cons rfl (fun KK hKK => ?_) AllReadyH.nil
  rw [if_pos (by rfl)]
  refine wp_build66 _ _ rfl C2 HC2 _ _ _ _ rfl rfl ?_
  refine hKK.out _ _ hHeld (fun hHeld => ?_)
  clear hKK KK
  simp only [Act.put, List.setIfInBounds_toArray]
  refine wpAnyH_ready (rs := [5]) (by kernel_rfl) (by simp) ?_
  refine AllReadyH.cons rfl (fun KK hKK => ?_) AllReadyH.nil
  rw [if_pos (by rfl)]
  obtain ⟨C3, hC3⟩ : ∃ C3, C3 = Value.int .i64 0 :: (C2 ++ [.int .i64 0, y, .slice (some ⟨gg, 0, none⟩) ns.length cap, .int .i64 (ri : Int)]) := ⟨_, rfl⟩
  have hC3l : C3.length = 57 := by rw [hC3]; simp [hC2l]
  have hC3o : C3.toArray.all (·.oneCell') = true := by
    refine all_oneCell_toArray fun v hv => ?_
    rw [hC3] at hv
    simp only [List.mem_cons, List.mem_append, List.not_mem_nil, or_false] at hv
    rcases hv with rfl | hv | rfl | rfl | rfl | rfl
    · rfl
    · exact (Array.all_eq_true_iff_forall_mem.1 HC2o.out) v (by simpa using hv)
    · rfl
    · exact hyo
    · rfl
    · rfl
  have hC3s : C3.toArray.size = 57 := by simp [hC3l]
  have HC3 : Hid (C3 = Value.int .i64 0 :: (C2 ++ [.int .i64 0, y, .slice (some ⟨gg, 0, none⟩) ns.length cap, .int .i64 (ri : Int)])) := hC3
  refine wp_store_mid 63 _ _ rfl w.heap.size 0 C3.toArray rfl (by rw [hC3]; rfl) (by rw [hC3s]; exact HT5.out) (by rw [hC3s]; exact Try.size63) hC3o ?_
  have hr6 : (w5.setCells w.heap.size 0 C3.toArray.toList).rangeAt w.heap.size 0 C3.toArray.toList := World.rangeAt_setCells_same _ _ _ _ (by simpa [hC3l] using HT5.out)
  have hb6 : Below w.heap.size w5 (w5.setCells w.heap.size 0 C3.toArray.toList) := below_setCellsT _ _ _ _
  have hk6 := block_setCellsT w.heap.size C3.toArray.toList 0 w5
  clear hC3
  generalize w5.setCells w.heap.size 0 C3.toArray.toList = w6 at hr6 hb6 hk6 ⊢
  refine hKK.out _ _ ⟨rangeAt_block hk6 e1 HR5.out, (cell_block hk6 e2 0).trans p0, (cell_block hk6 e2 1).trans p1, (cell_block hk6 e2 2).trans p2, (cell_block hk6 e2 3).trans p3⟩ (fun hHeld => ?_)
  clear hKK KK
  have HN5 : Hid (Nr w5 gg ns) := HNW.out.below hc5 HNW.out.lt
  have hgw : gg ≠ w.heap.size := by omega
  have HN6 : Hid (Nr w6 gg ns) := ⟨Nat.lt_of_lt_of_le HN5.out.lt hb6.size, fun i x hx j u hu => (cell_block hk6 hgw _).trans (HN5.out.c i x hx j u hu)⟩
  refine wpAnyH_done (by kernel_rfl) ?_ _
  clear hHeld
  go_wp2_with fail
  exact bodyPost_ret (resultT Try.results27 Try.size63 Try.row63 _ _ w.heap.size C3 rfl (by simpa using hr6) hC3l) rfl (QOk.of HC2E.out HC3.out hyo ((Below.to hbelW hc5).trans hb6) HN6.out HCLO.out hnl HREP.out HGOOD.out)

end Go.Proofs.Ytcfbfdjmcabnkaa

namespace Go.Proofs.Ytcfbfdjmcabnkaa
open Go.RowKit Fw
open Go.Deep (BT)
set_option linter.unusedVariables false

theorem question_err (g f s : ByteArray) (w : World) (hf : f.size ≤ 9223372036854775807) (h0 : flt g f s ≠ 0) :
    Calls Try.prog 27 #[.string g, .string f, .string s] w fun e w' => e = .returned (.agg (.int .i64 ((flt g f s : Nat) : Int) :: rest56).toArray) ∧ Below w.heap.size w w' := by
  by_cases h1 : 210 < g.size ∨ 30 < s.size
  · have e : flt g f s = 1 := by unfold flt; rw [if_pos h1]
    rw [e]
    exact question_long g f s w h1
  · by_cases h2 : (chk g).1 ≠ 0
    · have e : flt g f s = (chk g).1 := by unfold flt; rw [if_neg h1, if_pos h2]
      rw [e]
      exact question_graph g f s w (by omega) (by omega) _ rfl h2
    · have h2' : (chk g).1 = 0 := by simpa using h2
      cases hk : fairOk f with
      | false =>
        have e : flt g f s = 4 := by unfold flt; rw [if_neg h1, if_neg h2, if_pos hk]
        rw [e]
        exact question_fair g f s w (by omega) (by omega) hf h2' hk
      | true =>
        have e : flt g f s = (frm s).1 := by unfold flt; rw [if_neg h1, if_neg h2, if_neg (by rw [hk]; simp)]
        rw [e] at h0 ⊢
        exact question_form g f s w (by omega) (by omega) hf h2' hk _ rfl h0

theorem rangeAt_part {w : World} {b o : Nat} {cs xs ys zs : List Value} (h : w.rangeAt b 0 cs) (e : cs = xs ++ (ys ++ zs)) (ho : xs.length = o) : w.rangeAt b o ys := by
  intro j v hv
  have hj := (List.getElem?_eq_some_iff.1 hv).1
  have := h (o + j) v (by
    rw [e, List.getElem?_append_right (by omega), ho, show o + j - o = j from by omega, List.getElem?_append_left hj]
    exact hv)
  rw [Nat.zero_add] at this
  exact this

theorem bitsU_same {h k : Nat → Bool} {n : Nat} (e : ∀ i, i < n → h i = k i) : bitsU h n = bitsU k n := by
  unfold bitsU
  refine List.map_congr_left fun j hj => ?_
  rw [e j (List.mem_range.1 hj)]

set_option maxRecDepth 100000 in
set_option maxHeartbeats 4000000 in
theorem solve_all (g f s : ByteArray) (w : World) (hf : f.size ≤ 9223372036854775807) :
    Calls Try.prog 17 #[.string g, .string f, .string s] w fun e w' => e = .returned (.tuple #[.string (sol g f s).1, .int .i64 ((sol g f s).2 : Nat)]) ∧ Below w.heap.size w w' := by
  by_cases h0 : flt g f s = 0
  · obtain ⟨hg, hs, hck, hfo, hfr⟩ := flt_zero h0
    have HQ := question_ok g f s w hg hs hf hck hfo hfr
    have hok := gph_ok hck
    have hf3 : f.size ≤ 1000 := by
      simp only [fairOk, Bool.and_eq_true, decide_eq_true_eq] at hfo
      omega
    have hn6 : (gphOf g).n ≤ 6 := (run_starts g 6 0 (by omega)).1
    have HS : Hid (∀ (ns : List Nd) (ri : Nat), Clo ns → Rep ns (ptAll s).2.2 ri → good (ptAll s).2.2 → bs (bitsU (vals (gphOf g) (fsOf f) ns ns.length ri) (gphOf g).n) = (sol g f s).1) := by
      intro ns ri hc hr hgd
      have e1 : (sol g f s).1 = bs (bitsU (holdsB (gphOf g) (fsOf f) (treeOf s)) (gphOf g).n) := by rw [sol, if_pos h0]
      rw [e1, vals_is hc _ hgd ri ns.length hr (hr.lt hgd).1]
      rw [bitsU_same (fun i hi => holds_eq hok hn6 (ptAll s).2.2 hgd i hi)]
      rfl
    have HS2 : Hid ((sol g f s).2 = 0) := by show _ = _; rw [sol, if_pos h0]
    have HWY : Hid (∀ (W : World) (b : Nat) (B : Nat → Bool), b < W.heap.size → W.rangeAt b 1 (cells52 (gphOf g).n (gphOf g).e (mrk g (run g 6 0).2.2) f B) → Hid (Wy W b 1 (gphOf g) (mrk g (run g 6 0).2.2) f B)) := fun W b B h1 h2 => wy_of h1 hn6 (fun i => mrk_size g _ i hg) (fun i c _ => by
      show (List.any _ _) = true ↔ _
      simp only [List.any_eq_true, beq_iff_eq]) h2
    obtain ⟨X, hX⟩ : ∃ X, X = (sol g f s).1 := ⟨_, rfl⟩
    rw [← hX] at HS
    rw [← hX, HS2.out]
    clear hX HS2 h0
    go_enter Try.func17, Try.ntmps17
    go_wp2_with (first
      | (go_at_call 27; refine HQ.mono ?_; rintro e w1 ⟨hb1, y, gg, cap, ri, ns, hy, rfl, hnr, hclo, hnl, hrep, hgood⟩
         obtain ⟨C3, hC3⟩ : ∃ C3, C3 = Value.int .i64 0 :: (cells52 (gphOf g).n (gphOf g).e (mrk g (run g 6 0).2.2) f (begP (gphOf g) (fsOf f)) ++ [.int .i64 0, y, .slice (some ⟨gg, 0, none⟩) ns.length cap, .int .i64 (ri : Int)]) := ⟨_, rfl⟩
         rw [← hC3]
         have hC3l : C3.length = 57 := by rw [hC3]; simp [cells52_len]
         have hC3s : C3.toArray.size = 57 := by simp [hC3l]
         have hC3o : C3.toArray.all (·.oneCell') = true := by
           refine all_oneCell_toArray fun v hv => ?_
           rw [hC3] at hv
           simp only [List.mem_cons, List.mem_append, List.not_mem_nil, or_false] at hv
           rcases hv with rfl | hv | rfl | rfl | rfl | rfl
           · rfl
           · exact (Array.all_eq_true_iff_forall_mem.1 (cells52_one _ _ _ _ _)) v (by simpa using hv)
           · rfl
           · exact hy
           · rfl
           · rfl
         have HC3 : Hid (C3 = Value.int .i64 0 :: (cells52 (gphOf g).n (gphOf g).e (mrk g (run g 6 0).2.2) f (begP (gphOf g) (fsOf f)) ++ [.int .i64 0, y, .slice (some ⟨gg, 0, none⟩) ns.length cap, .int .i64 (ri : Int)])) := hC3
         have HN1 : Hid (Nr w1 gg ns) := hnr
         have HCL : Hid (Clo ns) := hclo
         have HRP : Hid (Rep ns (ptAll s).2.2 ri) := hrep
         have HGD : Hid (good (ptAll s).2.2) := hgood
         clear hC3 hnr hclo hrep hgood)
      | (refine storeT 63 57 Try.size63 (by rfl) _ _ (by rfl) w1.heap.size C3.toArray (by rfl) (by rfl) (there_newG _ _ _ 57 rfl) hC3s hC3o ?_; intro w2 hb2 hz2 hk2 hr2
         have hr2' : w2.rangeAt w1.heap.size 0 C3 := by simpa using hr2
         have c0 : w2.cell? ⟨w1.heap.size, 0, none⟩ = some (.int .i64 0) := hr2' 0 _ (by rw [HC3.out]; rfl)
         have hbe : Below w.heap.size w w2 := hb1.trans (((below1 w1 _).trans hb2).mono hb1.size)
         have hb12 : Below w1.heap.size w1 w2 := (below1 w1 _).trans hb2
         have hs12 : w1.heap.size < w2.heap.size := by rw [hz2]; simp
         have HW2 := HWY.out w2 w1.heap.size _ hs12 (rangeAt_part (xs := [.int .i64 0]) hr2' (by rw [HC3.out]; rfl) rfl)
         have c55 : w2.cell? ⟨w1.heap.size, 55, none⟩ = some (.slice (some ⟨gg, 0, none⟩) ns.length cap) := hr2' 55 _ (by
           rw [HC3.out, List.getElem?_cons_succ, List.getElem?_append_right (by rw [cells52_len]; omega), cells52_len]; rfl)
         have c56 : w2.cell? ⟨w1.heap.size, 56, none⟩ = some (.int .i64 (ri : Int)) := hr2' 56 _ (by
           rw [HC3.out, List.getElem?_cons_succ, List.getElem?_append_right (by rw [cells52_len]; omega), cells52_len]; rfl)
         have HAN := answer_P w1.heap.size gg ns.length cap ri (gphOf g) (mrk g (run g 6 0).2.2) f ns HCL.out rfl (by omega) hf3 (HRP.out.lt HGD.out).1 w2 HW2 (show Nr _ _ _ from HN1.out.below hb12 HN1.out.lt) c55 c56
         rw [HS.out ns ri HCL.out HRP.out HGD.out] at HAN
         clear hr2 hr2' c55 c56)
      | (go_at_call 28; refine HAN.mono ?_; rintro e w3 ⟨rfl, hb3⟩))
    go_ret2
    exact ⟨rfl, Below.to hbe hb3⟩
  · have HQ := question_err g f s w hf h0
    have HS : Hid (sol g f s = (ByteArray.empty, flt g f s)) := by show _ = _; rw [sol, if_neg h0]
    rw [HS.out]
    obtain ⟨E, hE⟩ : ∃ E, E = flt g f s := ⟨_, rfl⟩
    rw [← hE] at HQ h0
    rw [← hE]
    have hne : ((E : Int) != 0) = true := by rw [bne_iff_ne]; omega
    clear hE HS
    have hr := rest56_len
    have HO' : Hid (∀ v ∈ rest56, v.oneCell' = true) := rest56_one
    obtain ⟨R, hR⟩ : ∃ R, R = rest56 := ⟨_, rfl⟩
    rw [← hR] at hr HO' HQ
    clear hR
    go_enter Try.func17, Try.ntmps17
    go_wp2_with (first
      | (go_at_call 27; refine HQ.mono ?_; rintro e w1 ⟨rfl, hb1⟩)
      | (refine storeT 63 57 Try.size63 (by rfl) _ _ (by rfl) w1.heap.size (Value.int .i64 (E : Int) :: R).toArray (by rfl) (by rfl) (there_newG _ _ _ 57 rfl) (size57 _ _ hr) (one57 _ _ HO'.out) ?_; intro w2 hb2 hz2 hk2 hr2
         have c0 : w2.cell? ⟨w1.heap.size, 0, none⟩ = some (.int .i64 (E : Int)) := hr2 0 _ rfl
         have hbe : Below w.heap.size w w2 := hb1.trans (((below1 w1 _).trans hb2).mono hb1.size)
         clear hr2))
    go_quiet (fail)
    go_wp2
    go_ret2
    exact ⟨rfl, below_drewN hbe _⟩

end Go.Proofs.Ytcfbfdjmcabnkaa

