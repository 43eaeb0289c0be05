import Derived.Test.YtkjnhhbibaimfaaSu
namespace Go.Proofs.Ytkjnhhbibaimfaa
open Go.RowKit Fw
open Go.Deep (BT)
set_option linter.unusedVariables false

theorem firstBad_none {s : ByteArray} {n : Nat} : ∀ (l : List Nat) (i : Nat), firstBad s n i l = none → ∀ p ∈ l, astB s n p = false := by
  intro l
  induction l with
  | nil => intro i _ p hp; simp at hp
  | cons q r ih =>
    intro i h p hp
    unfold firstBad at h
    by_cases hq : astB s n q = true
    · rw [if_pos hq] at h; cases h
    · rw [if_neg hq] at h
      simp only [List.mem_cons] at hp
      rcases hp with rfl | hp
      · simpa using hq
      · exact ih _ h p hp

theorem chk_zero {s : ByteArray} (h : (chk s).1 = 0) : (run s 6 0).1 = true ∧ firstBad s (run s 6 0).2.2.length 0 (run s 6 0).2.2 = none := by
  unfold chk at h
  split at h
  · rename_i hr
    refine ⟨hr, ?_⟩
    split at h
    · simp at h
    · assumption
  · simp at h

theorem gph_ok {s : ByteArray} (h : (chk s).1 = 0) : (gphOf s).ok := by
  obtain ⟨_, hf⟩ := chk_zero h
  intro i j he
  show i < (run s 6 0).2.2.length ∧ j < (run s 6 0).2.2.length
  have he' : mat s (run s 6 0).2.2 i j = true := he
  unfold mat at he'
  split at he'
  · rename_i p hp
    obtain ⟨hlt, _⟩ := List.getElem?_eq_some_iff.1 hp
    refine ⟨hlt, ?_⟩
    have ha := firstBad_none _ _ hf p (List.mem_of_getElem? hp)
    simp only [List.any_eq_true, List.mem_range, beq_iff_eq] at he'
    obtain ⟨k, hk, hb⟩ := he'
    rcases Nat.lt_or_ge j (run s 6 0).2.2.length with h1 | h1
    · exact h1
    · rw [astB_yes hk (by omega)] at ha
      cases ha
  · cases he'

theorem gm_of {s : ByteArray} {w : World} {gb : Nat} (hs : s.size ≤ 210) (h : Gq w gb (run s 6 0).2.2.length (mat s (run s 6 0).2.2) (mrk s (run s 6 0).2.2)) : Gm w gb (gphOf s) (mrk s (run s 6 0).2.2) := by
  refine ⟨h.lt, (run_starts s 6 0 (by omega)).1, h.cn, h.ce, h.cm, fun i => mrk_size s _ i hs, fun i c _ => ?_⟩
  show (List.any _ _) = true ↔ _
  simp only [List.any_eq_true, beq_iff_eq]

/-- the answer of Solve, of a graph, marks and a formula -/
def bitsU (h : Nat → Bool) (k : Nat) : List UInt8 := (List.range k).map fun j => if h j = true then 49 else 48
theorem bitsU_zero (h : Nat → Bool) : bitsU h 0 = [] := rfl
theorem bitsU_succ (h : Nat → Bool) (k : Nat) : bitsU h (k + 1) = bitsU h k ++ [if h k = true then 49 else 48] := by simp [bitsU, List.range_succ]
theorem bitsU_len (h : Nat → Bool) (k : Nat) : (bitsU h k).length = k := by simp [bitsU]

/-- the tree of a text -/
def treeOf (s : ByteArray) : Fm := (pt (s.size + 1) (tl s 0)).2.2

def sol (g f s : ByteArray) : ByteArray × Nat :=
  if flt g f s = 0 then (bs (bitsU (holdsB (gphOf g) (fsOf f) (treeOf s)) (gphOf g).n), 0) else (ByteArray.empty, flt g f s)

theorem frm_zero {s : ByteArray} (h : (frm s).1 = 0) : s.data.toList = txt (treeOf s) ∧ good (treeOf s) := by
  unfold frm at h
  split at h
  · rename_i hh
    obtain ⟨h1, h2⟩ := hh
    have hg := pt_sound (s.size + 1) (tl s 0) h1
    rw [h2, List.append_nil] at hg
    rw [← tl0]
    exact hg
  · simp at h

theorem flt_zero {g f s : ByteArray} (h : flt g f s = 0) : g.size ≤ 210 ∧ s.size ≤ 30 ∧ (chk g).1 = 0 ∧ fairOk f = true ∧ (frm s).1 = 0 := by
  unfold flt at h
  split at h
  · simp at h
  · rename_i h1
    split at h
    · rename_i h2; exact absurd h h2
    · rename_i h2
      split at h
      · simp at h
      · rename_i h3
        exact ⟨by omega, by omega, by simpa using h2, by simpa using h3, h⟩

set_option maxRecDepth 100000 in
set_option maxHeartbeats 2000000 in
theorem refSolve_any (g f s : ByteArray) (w : World) (hf : f.size ≤ 9223372036854775807) :
    Calls Try.prog 40 #[.string g, .string f, .string s] w fun e w' => e = .returned (.tuple #[.string (sol g f s).1, .int .i64 ((sol g f s).2 : Nat)]) ∧ Below w.heap.size w w' := by
  have HF := fault_is g f s w hf
  obtain ⟨c, hc⟩ : ∃ c, c = flt g f s := ⟨_, rfl⟩
  rw [← hc] at HF
  by_cases h0 : c = 0
  · subst h0
    obtain ⟨hg, hs, hck, hfo, hfr⟩ := flt_zero hc.symm
    have HS : Hid (sol g f s = (bs (bitsU (holdsB (gphOf g) (fsOf f) (treeOf s)) (gphOf g).n), 0)) := by show _ = _; rw [sol, if_pos hc.symm]
    have HO := fun w' => of_is g w' hg (chk_zero hck).1
    have hfs : f.size ≤ 1000 := by
      simp only [fairOk, Bool.and_eq_true, decide_eq_true_eq] at hfo
      omega
    have HH := fun gb => holds_any gb (gphOf g) (gph_ok hck) (mrk g (run g 6 0).2.2) f hfs (treeOf s) (frm_zero hfr).2 s (frm_zero hfr).1 (by omega)
    have hn6 : (gphOf g).n ≤ 6 := (run_starts g 6 0 (by omega)).1
    have HGM := fun (w' : World) (gb : Nat) => gm_of (w := w') (gb := gb) hg
    obtain ⟨G, hG⟩ : ∃ G, G = gphOf g := ⟨_, rfl⟩
    obtain ⟨H, hH⟩ : ∃ H, H = holdsB G (fsOf f) (treeOf s) := ⟨_, rfl⟩
    rw [← hG] at HS HH hn6 HGM
    rw [← hH] at HS HH
    have HHH : Hid (∀ gb, HoldIs gb G (mrk g (run g 6 0).2.2) f s (upto G.n H)) := HH
    clear hG hH hc hck hfo hfr HH
    go_enter Try.func40, Try.ntmps40
    go_wp2_with (first
      | (go_at_call 56; refine HF.mono ?_; rintro e w1 ⟨rfl, hb1⟩)
      | (go_at_call 57; refine (HO _).mono ?_; rintro e w2 ⟨hb2, gb, hgb, rfl, hgq⟩
         have HG : Hid (Gm w2 gb G (mrk g (run g 6 0).2.2)) := HGM _ _ hgq
         clear hgq)
      | (go_at_call 58; refine (HHH.out gb _ HG).mono ?_; rintro e w3 ⟨rfl, hb3⟩)
      | (refine store6 (by rfl) _ _ (by rfl) w3.heap.size (fun _ => false) _ (by rfl) (by rfl) (arr_zero w3 111) ?_; intro w4 hb4 hz4 hk4 HR4))
    have hb24 : Below w2.heap.size w2 w4 := Below.to hb3 ((below1 w3 _).trans hb4)
    have hb04 : Below w.heap.size w w4 := Below.to (Below.to hb1 hb2) hb24
    have hn := (HG.out.below hb24 HG.out.lt).cn
    have HR : Hid (Arr w4 w3.heap.size 6 (upto G.n H)) := HR4
    clear HR4 hz4 hk4 hb4 hb3
    go_loop [11, 12] (fun v q => ∃ k : Nat, k ≤ G.n ∧ v = .string (bs (bitsU H k)) ∧ q = .int .i64 k) (fun _ q => G.n - (intOf q).toNat)
    case atStart => exact ⟨0, by omega, rfl, rfl⟩
    case round =>
      obtain ⟨k, hk, rfl, rfl⟩ := hrel
      by_cases hlt : k < G.n
      · have k0 : (0 : Int) ≤ (k : Int) := by omega
        have k1 : (k : Int) < 6 := by omega
        have cr := HR.out.c k (by omega)
        rw [upto_lt hlt] at cr
        have hl : (bs (bitsU H k)).size = k := by rw [bs_size, bitsU_len]
        have hl2 : (bs (bitsU H k)).size ≤ 6 := by omega
        have HB := bitsU_succ H k
        cases hx : H k with
        | true =>
          rw [hx] at cr HB
          have HB' : Hid (bs (bitsU H k) ++ (⟨#[49]⟩ : ByteArray) = bs (bitsU H (k + 1))) := by show _ = _; rw [HB, if_pos rfl]; exact bs_add _ [49]
          clear HB hx
          go_wp2_with fail
          go_round
          case rel => exact ⟨k + 1, by omega, by rw [HB'.out], by go_num⟩
          case measure => simp [intOf]; omega
        | false =>
          rw [hx] at cr HB
          have HB' : Hid (bs (bitsU H k) ++ (⟨#[48]⟩ : ByteArray) = bs (bitsU H (k + 1))) := by show _ = _; rw [HB, if_neg (by simp)]; exact bs_add _ [48]
          clear HB hx
          go_wp2_with fail
          go_round
          case rel => exact ⟨k + 1, by omega, by rw [HB'.out], by go_num⟩
          case measure => simp [intOf]; omega
      · have hkn : k = G.n := by omega
        have HK : Hid (k = G.n) := hkn
        clear hkn
        go_wp2_with fail
        go_ret2
        exact ⟨by rw [HS.out, ← HK.out]; rfl, hb04⟩
  · have HS : Hid (sol g f s = (ByteArray.empty, c)) := by show _ = _; rw [sol, ← hc, if_neg h0]
    have hn : ((c : Int) != 0) = true := by rw [bne_iff_ne]; omega
    clear hc
    go_enter Try.func40, Try.ntmps40
    go_wp2_with (first
      | (go_at_call 56; refine HF.mono ?_; rintro e w1 ⟨rfl, hb1⟩))
    go_ret2
    exact ⟨by rw [HS.out]; rfl, hb1⟩

end Go.Proofs.Ytkjnhhbibaimfaa
