import Derived.Test.YtkjnhhbibaimfaaSf
namespace Go.Proofs.Ytkjnhhbibaimfaa
open Go.RowKit Fw
set_option linter.unusedVariables false

/-- a set in the making: whole up to i, v at i -/
def part (i : Nat) (F : Nat → Bool) (v : Bool) : Nat → Bool := fun j => if j < i then F j else if j = i then v else false
theorem part_false (i : Nat) (F : Nat → Bool) : part i F false = upto i F := by
  funext j; unfold part upto; split <;> simp
theorem part_whole (i : Nat) (F : Nat → Bool) {v : Bool} (h : v = F i) : part i F v = upto (i + 1) F := by
  funext j; unfold part upto
  by_cases h1 : j < i
  · rw [if_pos h1, if_pos (by omega)]
  · rw [if_neg h1]
    by_cases h2 : j = i
    · subst h2; rw [if_pos rfl, if_pos (by omega), h]
    · rw [if_neg h2, if_neg (by omega)]
theorem part_here (i : Nat) (F : Nat → Bool) (v : Bool) : part i F v i = v := by
  unfold part; rw [if_neg (by omega), if_pos rfl]
theorem Arr.part {w : World} {B n i : Nat} {F : Nat → Bool} {v : Bool} (h : Arr w B n (part i F v)) (hi : i < n) (u t : Bool) (hu : u = t) : Arr (w.setCell ⟨B, i, none⟩ (.bool u)) B n (Ytkjnhhbibaimfaa.part i F t) := by
  subst hu
  refine (h.set i u hi).congr fun j hj => ?_
  unfold Ytkjnhhbibaimfaa.part
  by_cases e : j = i
  · subst e; rw [if_pos rfl, if_neg (by omega), if_pos rfl]
  · rw [if_neg e, if_neg e, if_neg e]
theorem Arr.partIn {w : World} {B n i : Nat} {F : Nat → Bool} (h : Arr w B n (upto i F)) : Arr w B n (Ytkjnhhbibaimfaa.part i F false) := by rw [part_false]; exact h
theorem Arr.partOut {w : World} {B n i : Nat} {F : Nat → Bool} {v : Bool} (h : Arr w B n (Ytkjnhhbibaimfaa.part i F v)) (hv : v = F i) : Arr w B n (upto (i + 1) F) := by rw [← part_whole i F hv]; exact h

def fsOf (f : ByteArray) : List Nat := (tl f 0).map (·.toNat)

/-- a set is loaded -/
theorem load6 {ops : Array Oper} {rest : List Oper} {op : Oper} {a : Act} {w : World} {Q : Exit → Act → World → Prop} (hgd : op.guard = none) (x : Operand) (ho : op.op = .load 111 x)
    (b : Nat) (hx : a.eval x = .pointer (some ⟨b, 0, none⟩)) (f : Nat → Bool) (hc : Arr w b 6 f)
    (h : wpList Try.prog ops Q rest (a.put op.dst (.agg (six f))) w) : wpList Try.prog ops Q (op :: rest) a w :=
  loadT 111 6 Try.size111 Try.row111 hgd x ho b hx _ hc.range (bools_len _ _) h
/-- a set is stored -/
theorem store6 {ops : Array Oper} {rest : List Oper} {op : Oper} {a : Act} {w : World} {Q : Exit → Act → World → Prop} (hgd : op.guard = none) (x y : Operand) (ho : op.op = .store 111 x y)
    (b : Nat) (f g : Nat → Bool) (hx : a.eval x = .pointer (some ⟨b, 0, none⟩)) (hy : a.eval y = .agg (six g)) (hc : Arr w b 6 f)
    (h : ∀ w', Below b w w' → w'.heap.size = w.heap.size → (∀ k, k ≠ b → w'.heap[k]? = w.heap[k]?) → Arr w' b 6 g → wpList Try.prog ops Q rest (a.put op.dst undef) w') : wpList Try.prog ops Q (op :: rest) a w := by
  refine wpList_store_mid hgd 111 x y ho b 0 (six g) hx hy hc.there Try.size111 (bools_one 6 g) ?_
  have hr : (w.setCells b 0 (six g).toList).rangeAt b 0 (bools 6 g) := World.rangeAt_setCells_same w b 0 (six g).toList hc.there
  refine h _ (below_setCellsT b _ _ _) (size_setCellsT b _ _ _) (block_setCellsT b _ _ _) (arr_of_range ?_ hr ?_)
  · rw [size_setCellsT]; exact hc.lt
  · intro o ho
    rw [World.frozen?_setCells]
    exact hc.z o ho

theorem load36 {ops : Array Oper} {rest : List Oper} {op : Oper} {a : Act} {w : World} {Q : Exit → Act → World → Prop} (hgd : op.guard = none) (x : Operand) (ho : op.op = .load 113 x)
    (b : Nat) (hx : a.eval x = .pointer (some ⟨b, 0, none⟩)) (M : Nat → Nat → Bool) (hc : Mat w b M)
    (h : wpList Try.prog ops Q rest (a.put op.dst (.agg (bools 36 (flat6 M)).toArray)) w) : wpList Try.prog ops Q (op :: rest) a w :=
  loadT 113 36 Try.size113 Try.row113 hgd x ho b hx _ hc.range (bools_len _ _) h
theorem store36 {ops : Array Oper} {rest : List Oper} {op : Oper} {a : Act} {w : World} {Q : Exit → Act → World → Prop} (hgd : op.guard = none) (x y : Operand) (ho : op.op = .store 113 x y)
    (b : Nat) (M N : Nat → Nat → Bool) (hx : a.eval x = .pointer (some ⟨b, 0, none⟩)) (hy : a.eval y = .agg (bools 36 (flat6 N)).toArray) (hc : Mat w b M)
    (h : ∀ w', Below b w w' → w'.heap.size = w.heap.size → (∀ k, k ≠ b → w'.heap[k]? = w.heap[k]?) → Mat w' b N → wpList Try.prog ops Q rest (a.put op.dst undef) w') : wpList Try.prog ops Q (op :: rest) a w := by
  refine wpList_store_mid hgd 113 x y ho b 0 (bools 36 (flat6 N)).toArray hx hy (by rw [bools_size]; exact hc.there) (by rw [bools_size]; exact Try.size113) (bools_one 36 _) ?_
  have hr : (w.setCells b 0 (bools 36 (flat6 N)).toArray.toList).rangeAt b 0 (bools 36 (flat6 N)) := World.rangeAt_setCells_same w b 0 (bools 36 (flat6 N)).toArray.toList (by rw [Array.length_toList, bools_size]; exact hc.there)
  refine h _ (below_setCellsT b _ _ _) (size_setCellsT b _ _ _) (block_setCellsT b _ _ _) (mat_of_range ?_ hr ?_)
  · rw [size_setCellsT]; exact hc.lt
  · intro o ho
    rw [World.frozen?_setCells]
    exact hc.z o ho

/-- the set that a function gives back, out of its block -/
theorem result6 {fn : Func} {p : Nat} (hf : fn.results = #[.cell p 111]) (tmps : Array Value) (w : World) (b : Nat) (f : Nat → Bool) (hp : tmps.getD p undef = .pointer (some ⟨b, 0, none⟩)) (hc : Arr w b 6 f) :
    (results fn tmps).run Try.prog w = .ok (.agg (six f)) w := resultT hf Try.size111 Try.row111 tmps w b (bools 6 f) hp hc.range (bools_len _ _)

theorem Below.to {w w1 w2 : World} (h : Below w.heap.size w w1) (g : Below w1.heap.size w1 w2) : Below w.heap.size w w2 := h.trans (g.mono h.size)

set_option maxRecDepth 100000 in
set_option maxHeartbeats 4000000 in
theorem stays_is (gb : Nat) (G : Gph) (ok : G.ok) (mk : Nat → ByteArray) (S : Nat → Bool) (f : ByteArray) (w : World) (hf : f.size ≤ 1000) (HG : Hid (Gm w gb G mk)) :
    Calls Try.prog 101 #[.pointer (some ⟨gb, 0, none⟩), .agg (six S), .string f] w fun e w' => e = .returned (.agg (six (upto G.n (staysB G (fsOf f) S)))) ∧ Below w.heap.size w w' := by
  have hg6 := HG.out.n6
  have hgl := HG.out.lt
  have HOK : Hid G.ok := ok
  clear ok
  have HA0 : Hid (Arr ((w.alloc (.cells (six S) 111)).alloc (.cells (six fun _ => false) 111)) w.heap.size 6 S) := (arr_new w S 111).alloc _
  have HR0 : Hid (Arr ((w.alloc (.cells (six S) 111)).alloc (.cells (six fun _ => false) 111)) (w.heap.size + 1) 6 (fun _ => false)) := arr_at _ _ 111 _ (by simp)
  have hb0 := below2S w (.cells (six S) 111) (.cells (six fun _ => false) 111)
  have HG0 : Hid (Gm _ gb G mk) := HG.out.below hb0 hgl
  obtain ⟨M, hM⟩ : ∃ M, M = fw G.e S G.n := ⟨_, rfl⟩
  have HF : Hid (∀ i, staysB G (fsOf f) S i = anyU (fun c => (S c && M c c && allM G M S c (tl f 0)) && S i && (i == c || M i c)) G.n) := by
    intro i
    rw [hM]; rfl
  obtain ⟨F, hF⟩ : ∃ F, F = staysB G (fsOf f) S := ⟨_, rfl⟩
  rw [← hF] at HF
  rw [← hF]
  have HW : ∀ w', Hid (Gm w' gb G mk) → Calls Try.prog 114 #[.pointer (some ⟨gb, 0, none⟩), .agg (six S)] w' fun e w'' => e = .returned (.agg (bools 36 (flat6 M)).toArray) ∧ Below w'.heap.size w' w'' := by
    intro w' h
    rw [hM]
    exact web_is gb G HOK.out mk S w' h
  clear hM hF
  go_enter Try.func101, Try.ntmps101
  go_wp2_with (first
    | (refine load6 (by rfl) _ (by rfl) w.heap.size (by rfl) S HA0.out ?_)
    | (go_at_call 114; refine (HW _ HG0).mono ?_; rintro e w1 ⟨rfl, hb1⟩)
    | (refine store36 (by rfl) _ _ (by rfl) w1.heap.size (fun _ _ => false) M (by rfl) (by rfl) (mat_new w1 113 _ rfl) ?_; intro w3 hb3 hz3 hk3 HM3))
  have HA1 : Hid (Arr w1 w.heap.size 6 S) := HA0.out.below hb1 HA0.out.lt
  have HR1 : Hid (Arr w1 (w.heap.size + 1) 6 (fun _ => false)) := HR0.out.below hb1 HR0.out.lt
  have hbel1 : Below w.heap.size w w1 := Below.to hb0 hb1
  have hb13 : Below w1.heap.size w1 w3 := ((Below.refl _ _).alloc (Nat.le_refl _) _).trans hb3
  have HA3 : Hid (Arr w3 w.heap.size 6 S) := HA1.out.below hb13 HA1.out.lt
  have HR3 : Hid (Arr w3 (w.heap.size + 1) 6 (fun _ => false)) := HR1.out.below hb13 HR1.out.lt
  have hbel3 : Below w.heap.size w w3 := Below.to hbel1 hb13
  have HM3' : Hid (Mat w3 w1.heap.size M) := HM3
  have q1 : w.heap.size + 1 < w1.heap.size := HR1.out.lt
  have q2 : w3.heap.size = w1.heap.size + 1 := by rw [hz3]; simp
  clear HM3 hb3 hz3 hk3 HA1 HR1 HA0 HR0 HG0 hb0 hb1 hb13 hbel1
  go_loopw [9] (fun q wr => ∃ i : Nat, i ≤ G.n ∧ q = .int .i64 i ∧ Below w.heap.size w wr ∧ Hid (Arr wr w.heap.size 6 S) ∧ Hid (Arr wr (w.heap.size + 1) 6 (fun _ => false)) ∧ Hid (Mat wr w1.heap.size M) ∧ Hid (Arr wr (w1.heap.size + 1) 6 (upto i F))) (fun q _ => G.n - (intOf q).toNat)
  case atStart =>
    refine ⟨0, by omega, rfl, Below.to hbel3 ((Below.refl _ _).alloc (Nat.le_refl _) _), HA3.out.alloc _, HR3.out.alloc _, HM3'.out.alloc _, ?_⟩
    show Arr _ _ _ _
    rw [upto_zero]
    exact arr_at _ (fun _ => false) 111 _ q2
  case round =>
    clear HA3 HR3 HM3' hbel3
    obtain ⟨i, hi, rfl, hbel, HA, HR, HM, HS⟩ := hrel
    have hn := (HG.out.below hbel hgl).cn
    by_cases hlt : i < G.n
    · go_wp2_with fail
      clear hn
      go_loopw [10] (fun q wr => ∃ c : Nat, c ≤ G.n ∧ q = .int .i64 c ∧ Below w.heap.size w wr ∧ Hid (Arr wr w.heap.size 6 S) ∧ Hid (Arr wr (w.heap.size + 1) 6 (fun _ => false)) ∧ Hid (Mat wr w1.heap.size M) ∧ Hid (Arr wr (w1.heap.size + 1) 6 (part i F (anyU (fun c => (S c && M c c && allM G M S c (tl f 0)) && S i && (i == c || M i c)) c)))) (fun q _ => G.n - (intOf q).toNat)
      case atStart => exact ⟨0, by omega, rfl, hbel, HA, HR, HM, HS.out.partIn⟩
      case round =>
        clear hbel HA HR HM HS
        obtain ⟨c, hc, rfl, hbel, HA, HR, HM, HS⟩ := hrel
        have HGr : Hid (Gm _ gb G mk) := HG.out.below hbel hgl
        have hn := HGr.out.cn
        by_cases hcl : c < G.n
        · have ca := HA.out.c i (by omega)
          have cm := HM.out.c i c (by omega) (by omega)
          have zs := HS.out.z i (by omega)
          have cs := HS.out.c i (by omega)
          rw [part_here] at cs
          have i0 : (0 : Int) ≤ (i : Int) := by omega
          have i1 : (i : Int) < 6 := by omega
          have c0 : (0 : Int) ≤ (c : Int) := by omega
          have c1 : (c : Int) < 6 := by omega
          have HX := anyU_succ (fun c => (S c && M c c && allM G M S c (tl f 0)) && S i && (i == c || M i c)) c
          obtain ⟨r, hr⟩ : ∃ r, r = (S c && M c c && allM G M S c (tl f 0)) := ⟨_, rfl⟩
          obtain ⟨e, he⟩ : ∃ e, ((i : Int) == (c : Int)) = e := ⟨_, rfl⟩
          have hic : (i == c) = e := by
            rw [← he, Bool.eq_iff_iff, beq_iff_eq, beq_iff_eq]
            omega
          obtain ⟨x, hx⟩ : ∃ x, x = S i := ⟨_, rfl⟩
          obtain ⟨m, hm⟩ : ∃ m, m = M i c := ⟨_, rfl⟩
          obtain ⟨b, hb⟩ : ∃ b, b = anyU (fun c => (S c && M c c && allM G M S c (tl f 0)) && S i && (i == c || M i c)) c := ⟨_, rfl⟩
          have HC : ∀ w', Hid (Gm w' gb G mk) → Calls Try.prog 115 #[.pointer (some ⟨gb, 0, none⟩), .agg (bools 36 (flat6 M)).toArray, .agg (six S), .int .i64 (c : Int), .string f] w' fun e w'' => e = .returned (.bool r) ∧ Below w'.heap.size w' w'' := by
            intro w' h
            rw [hr]
            exact round_is gb c G mk M S f w' (by omega) hf h
          rw [← hx] at ca
          rw [← hm] at cm
          rw [← hb] at cs
          have HX2 : Hid (anyU (fun c => (S c && M c c && allM G M S c (tl f 0)) && S i && (i == c || M i c)) (c + 1) = (b || (r && x && (e || m)))) := by
            show _ = _
            rw [HX, ← hb, ← hr, ← hx, hic, ← hm]
          clear HX hr hic hx hm hb
          have HN2 : Hid (∀ w', Below w.heap.size w w' → Arr w' w.heap.size 6 S → Arr w' (w.heap.size + 1) 6 (fun _ => false) → Mat w' w1.heap.size M → Arr w' (w1.heap.size + 1) 6 (part i F (anyU (fun c => (S c && M c c && allM G M S c (tl f 0)) && S i && (i == c || M i c)) c)) → ∀ v, v = (b || (r && x && (e || m))) →
              Below w.heap.size w (w'.setCell ⟨w1.heap.size + 1, i, none⟩ (.bool v)) ∧ Hid (Arr (w'.setCell ⟨w1.heap.size + 1, i, none⟩ (.bool v)) w.heap.size 6 S) ∧ Hid (Arr (w'.setCell ⟨w1.heap.size + 1, i, none⟩ (.bool v)) (w.heap.size + 1) 6 (fun _ => false)) ∧ Hid (Mat (w'.setCell ⟨w1.heap.size + 1, i, none⟩ (.bool v)) w1.heap.size M) ∧ Hid (Arr (w'.setCell ⟨w1.heap.size + 1, i, none⟩ (.bool v)) (w1.heap.size + 1) 6 (part i F (anyU (fun c => (S c && M c c && allM G M S c (tl f 0)) && S i && (i == c || M i c)) (c + 1))))) := by
            intro w' h1 h2 h3 h4 h5 v hv
            exact ⟨h1.setCell (by simp; omega) _, h2.setOther _ (by simp; omega), h3.setOther _ (by simp; omega), h4.setOther _ (by simp), h5.part (by omega) _ _ (by rw [HX2.out]; exact hv)⟩
          have HNX := HC _ HGr
          cases b with
          | true =>
            go_wp2_with (first
              | (refine load36 (by rfl) _ (by rfl) w1.heap.size (by rfl) _ HM.out ?_)
              | (refine load6 (by rfl) _ (by rfl) w.heap.size (by rfl) _ HA.out ?_)
              | (go_at_call 115; refine HNX.mono ?_; rintro e' w4 ⟨rfl, hb4⟩
                 have ca4 := (hb4.cell (p := ⟨w.heap.size, i, none⟩) HA.out.lt).trans ca
                 have cm4 := (hb4.cell (p := ⟨w1.heap.size, i * 6 + c, none⟩) HM.out.lt).trans cm
                 have cs4 := (hb4.cell (p := ⟨w1.heap.size + 1, i, none⟩) HS.out.lt).trans cs
                 have zs4 := (hb4.frozen (p := ⟨w1.heap.size + 1, i, none⟩) HS.out.lt).trans zs))
            go_roundw
            case rel => exact ⟨c + 1, by omega, by go_num, HN2.out _ (Below.to hbel hb4) (HA.out.below hb4 HA.out.lt) (HR.out.below hb4 HR.out.lt) (HM.out.below hb4 HM.out.lt) (HS.out.below hb4 HS.out.lt) _ (by simp)⟩
            case measure => simp [intOf]; omega
          | false =>
            cases r with
            | false =>
              go_wp2_with (first
                | (refine load36 (by rfl) _ (by rfl) w1.heap.size (by rfl) _ HM.out ?_)
                | (refine load6 (by rfl) _ (by rfl) w.heap.size (by rfl) _ HA.out ?_)
                | (go_at_call 115; refine HNX.mono ?_; rintro e' w4 ⟨rfl, hb4⟩
                   have ca4 := (hb4.cell (p := ⟨w.heap.size, i, none⟩) HA.out.lt).trans ca
                   have cm4 := (hb4.cell (p := ⟨w1.heap.size, i * 6 + c, none⟩) HM.out.lt).trans cm
                   have cs4 := (hb4.cell (p := ⟨w1.heap.size + 1, i, none⟩) HS.out.lt).trans cs
                   have zs4 := (hb4.frozen (p := ⟨w1.heap.size + 1, i, none⟩) HS.out.lt).trans zs))
              go_roundw
              case rel => exact ⟨c + 1, by omega, by go_num, HN2.out _ (Below.to hbel hb4) (HA.out.below hb4 HA.out.lt) (HR.out.below hb4 HR.out.lt) (HM.out.below hb4 HM.out.lt) (HS.out.below hb4 HS.out.lt) _ (by simp)⟩
              case measure => simp [intOf]; omega
            | true =>
              cases x with
              | false =>
                go_wp2_with (first
                  | (refine load36 (by rfl) _ (by rfl) w1.heap.size (by rfl) _ HM.out ?_)
                  | (refine load6 (by rfl) _ (by rfl) w.heap.size (by rfl) _ HA.out ?_)
                  | (go_at_call 115; refine HNX.mono ?_; rintro e' w4 ⟨rfl, hb4⟩
                     have ca4 := (hb4.cell (p := ⟨w.heap.size, i, none⟩) HA.out.lt).trans ca
                     have cm4 := (hb4.cell (p := ⟨w1.heap.size, i * 6 + c, none⟩) HM.out.lt).trans cm
                     have cs4 := (hb4.cell (p := ⟨w1.heap.size + 1, i, none⟩) HS.out.lt).trans cs
                     have zs4 := (hb4.frozen (p := ⟨w1.heap.size + 1, i, none⟩) HS.out.lt).trans zs))
                go_roundw
                case rel => exact ⟨c + 1, by omega, by go_num, HN2.out _ (Below.to hbel hb4) (HA.out.below hb4 HA.out.lt) (HR.out.below hb4 HR.out.lt) (HM.out.below hb4 HM.out.lt) (HS.out.below hb4 HS.out.lt) _ (by simp)⟩
                case measure => simp [intOf]; omega
              | true =>
                cases e with
                | true =>
                  go_wp2_with (first
                    | (refine load36 (by rfl) _ (by rfl) w1.heap.size (by rfl) _ HM.out ?_)
                    | (refine load6 (by rfl) _ (by rfl) w.heap.size (by rfl) _ HA.out ?_)
                    | (go_at_call 115; refine HNX.mono ?_; rintro e' w4 ⟨rfl, hb4⟩
                       have ca4 := (hb4.cell (p := ⟨w.heap.size, i, none⟩) HA.out.lt).trans ca
                       have cm4 := (hb4.cell (p := ⟨w1.heap.size, i * 6 + c, none⟩) HM.out.lt).trans cm
                       have cs4 := (hb4.cell (p := ⟨w1.heap.size + 1, i, none⟩) HS.out.lt).trans cs
                       have zs4 := (hb4.frozen (p := ⟨w1.heap.size + 1, i, none⟩) HS.out.lt).trans zs))
                  go_roundw
                  case rel => exact ⟨c + 1, by omega, by go_num, HN2.out _ (Below.to hbel hb4) (HA.out.below hb4 HA.out.lt) (HR.out.below hb4 HR.out.lt) (HM.out.below hb4 HM.out.lt) (HS.out.below hb4 HS.out.lt) _ (by simp)⟩
                  case measure => simp [intOf]; omega
                | false =>
                  go_wp2_with (first
                    | (refine load36 (by rfl) _ (by rfl) w1.heap.size (by rfl) _ HM.out ?_)
                    | (refine load6 (by rfl) _ (by rfl) w.heap.size (by rfl) _ HA.out ?_)
                    | (go_at_call 115; refine HNX.mono ?_; rintro e' w4 ⟨rfl, hb4⟩
                       have ca4 := (hb4.cell (p := ⟨w.heap.size, i, none⟩) HA.out.lt).trans ca
                       have cm4 := (hb4.cell (p := ⟨w1.heap.size, i * 6 + c, none⟩) HM.out.lt).trans cm
                       have cs4 := (hb4.cell (p := ⟨w1.heap.size + 1, i, none⟩) HS.out.lt).trans cs
                       have zs4 := (hb4.frozen (p := ⟨w1.heap.size + 1, i, none⟩) HS.out.lt).trans zs))
                  go_roundw
                  case rel => exact ⟨c + 1, by omega, by go_num, HN2.out _ (Below.to hbel hb4) (HA.out.below hb4 HA.out.lt) (HR.out.below hb4 HR.out.lt) (HM.out.below hb4 HM.out.lt) (HS.out.below hb4 HS.out.lt) _ (by simp)⟩
                  case measure => simp [intOf]; omega
        · have hcn : c = G.n := by omega
          have HN : Hid (c = G.n) := hcn
          clear hcn
          go_wp2_with fail
          go_roundw
          case rel => exact ⟨i + 1, by omega, by go_num, hbel, HA, HR, HM, HS.out.partOut (by rw [HF.out i, HN.out])⟩
          case measure => simp [intOf]; omega
    · have hkn : i = G.n := by omega
      have HK : Hid (i = G.n) := hkn
      clear hkn
      go_wp2_with (first
        | (refine load6 (by rfl) _ (by rfl) (w1.heap.size + 1) (by rfl) _ HS.out ?_)
        | (refine store6 (by rfl) _ _ (by rfl) (w.heap.size + 1) _ _ (by rfl) (by rfl) HR.out ?_; intro w5 hb5 hz5 hk5 HR5))
      refine bodyPost_ret (result6 Try.results101 _ _ (w.heap.size + 1) _ rfl HR5) rfl ⟨?_, hbel.trans (hb5.mono (by omega))⟩
      rw [HK.out]

end Go.Proofs.Ytkjnhhbibaimfaa
