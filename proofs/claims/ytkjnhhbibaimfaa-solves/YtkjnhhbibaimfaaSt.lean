import Derived.Test.YtkjnhhbibaimfaaSs
namespace Go.Proofs.Ytkjnhhbibaimfaa
open Go.RowKit Fw
set_option linter.unusedVariables false

theorem mat_nil (s : ByteArray) : mat s [] = fun _ _ => false := by funext i j; simp [mat]

theorem mrk_step {s : ByteArray} {acc : List Nat} {i p : Nat} (h : acc[i]? = some p) (x : Nat) : (if x = i then s.extract p (arrow s p) else mrk s (acc.take i) x) = mrk s (acc.take (i + 1)) x := by
  obtain ⟨hlt, hp⟩ := List.getElem?_eq_some_iff.1 h
  by_cases e : x = i
  · subst e
    rw [if_pos rfl, mrk_some]
    rw [List.getElem?_take, if_pos (by omega)]
    exact h
  · rw [if_neg e]
    unfold mrk
    rw [List.getElem?_take, List.getElem?_take]
    by_cases h1 : x < i
    · rw [if_pos h1, if_pos (by omega)]
    · rw [if_neg h1, if_neg (by omega)]

set_option maxRecDepth 100000 in
set_option maxHeartbeats 2000000 in
theorem of_is (s : ByteArray) (w : World) (hs : s.size ≤ 210) (hr0 : (run s 6 0).1 = true) :
    Calls Try.prog 57 #[.string s] w fun e w' => Below w.heap.size w w' ∧ ∃ gb, w.heap.size ≤ gb ∧ e = .returned (.pointer (some ⟨gb, 0, none⟩)) ∧ Gq w' gb (run s 6 0).2.2.length (mat s (run s 6 0).2.2) (mrk s (run s 6 0).2.2) := by
  go_enter Try.func57, Try.ntmps57
  go_wp2_with fail
  refine (states_any s _ hs).mono ?_
  rintro e w1 ⟨hbel, ⟨hr, v, rfl, hown⟩ | ⟨hr, rfl⟩⟩
  · obtain ⟨acc, HA⟩ : ∃ acc, Hid (acc = (run s 6 0).2.2) := ⟨_, rfl⟩
    rw [← HA.out] at hown
    have hst := run_starts s 6 0 (by omega)
    rw [← HA.out] at hst
    obtain ⟨hlen, hst⟩ := hst
    clear hr hr0
    obtain ⟨a, cap, hv⟩ : ∃ a cap, v = .slice a acc.length cap := by
      rcases hown.2 with ⟨h1, h2⟩ | ⟨g, cap, cur, h1, _⟩
      · exact ⟨none, 0, by rw [h1, h2]⟩
      · exact ⟨_, _, h1⟩
    rw [hv] at hown ⊢
    clear hv
    have HG0 : Hid (Gq _ w1.heap.size acc.length (fun _ _ => false) (fun _ => ByteArray.empty)) := gq_new w1 acc.length
    go_wp2_with (refine build71 (by rfl) _ (by rfl) (acc.length : Int) (by rfl) ?_)
    go_loopw [6] (fun q wr => ∃ i : Nat, i ≤ acc.length ∧ q = .int .i64 i ∧ Below w1.heap.size w1 wr ∧ Hid (Gq wr w1.heap.size acc.length (mat s (acc.take i)) (mrk s (acc.take i)))) (fun q _ => acc.length - (intOf q).toNat)
    case atStart =>
      refine ⟨0, by omega, rfl, below1 w1 _, ?_⟩
      show Gq _ _ _ _ _
      rw [List.take_zero, mat_nil]
      exact HG0.out.congr fun i _ => (mrk_none (by simp)).symm
    case round =>
      clear HG0
      obtain ⟨i, hi, rfl, hb1, HG⟩ := hrel
      by_cases hlt : i < acc.length
      · obtain ⟨g, cap2, hv2, hg, hgl⟩ := hown.form (by omega)
        have hpi : acc[i]? = some acc[i] := List.getElem?_eq_getElem hlt
        obtain ⟨p, hp⟩ : ∃ p, acc[i]? = some p := ⟨_, hpi⟩
        have hcell := hown.cells (g := g) (by rw [hv2]; rfl) (i * 2 + 1) _ (flat_get s p acc i hp)
        have hcell0 := hown.cells (g := g) (by rw [hv2]; rfl) (i * 2) _ (flat_get0 s p acc i hp)
        simp only [Value.slice.injEq] at hv2
        obtain ⟨rfl, _, rfl⟩ := hv2
        have hq := hst p (List.mem_of_getElem? hp)
        obtain ⟨T, HT⟩ : ∃ T, Hid (T = s.extract (arrow s p + 1) (stop s p)) := ⟨_, rfl⟩
        obtain ⟨U, HU⟩ : ∃ U, Hid (U = s.extract p (arrow s p)) := ⟨_, rfl⟩
        rw [← HT.out] at hcell
        rw [← HU.out] at hcell0
        have hc1 : w1.cell? ⟨g, i * 2 + 1, none⟩ = some (.string T) := by simpa [Addr.add] using hcell
        have hc0 : w1.cell? ⟨g, i * 2, none⟩ = some (.string U) := by
          have e : (⟨g, 0, none⟩ : Addr).add (i * 2) = ⟨g, i * 2, none⟩ := by unfold Addr.add; split <;> simp_all
          rw [← e]; exact hcell0
        have hd1 := (hb1.cell (p := ⟨g, i * 2 + 1, none⟩) hgl).trans hc1
        have hd0 := (hb1.cell (p := ⟨g, i * 2, none⟩) hgl).trans hc0
        have hTs : T.size = many s p := by
          rw [HT.out, ByteArray.size_extract]
          have := many_stop s p
          omega
        have HTb : Hid (∀ k (h : k < T.size), T[k].toNat = byteAt s (arrow s p + 1 + k)) := extract_get' s T _ _ HT.out
        have hm := HG.out.cm i (by omega)
        have hz := HG.out.fz (37 + i) (by omega)
        have i0 : (0 : Int) ≤ (i : Int) := by omega
        have i1 : (i : Int) < 6 := by omega
        clear hcell hcell0
        go_wp2_with fail
        go_region
        all_goals
          go_wp2_with fail
          go_loopw [7] (fun q wr => ∃ k : Nat, k ≤ many s p ∧ q = .int .i64 k ∧ Below w1.heap.size w1 wr ∧ Hid (Gq wr w1.heap.size acc.length (marked s (arrow s p + 1) i (mat s (acc.take i)) k) (mrk s (acc.take (i + 1))))) (fun q _ => many s p - (intOf q).toNat)
          case atStart =>
            refine ⟨0, by omega, rfl, (hb1.setCell (by simp) _).drew, ?_⟩
            show Gq _ _ _ _ _
            rw [marked_zero]
            exact ((HG.out.mark i (by omega) U).congr fun x _ => by rw [HU.out]; exact mrk_step hp x).drew
          case round =>
            clear hb1 HG hd1 hd0 hm hz
            obtain ⟨k, hk, rfl, hb1, HG⟩ := hrel
            have hd1 := (hb1.cell (p := ⟨g, i * 2 + 1, none⟩) hgl).trans hc1
            by_cases hkl : k < many s p
            · have hkT : k < T.size := by omega
              have hb := HTb.out k hkT
              obtain ⟨_, hr1, hr2⟩ := byte_range s 53 48 (arrow s p + 1) k hkl
              have hr3 : byteAt s (arrow s p + 1 + k) = s[arrow s p + 1 + k].toNat := byteAt_lt _
              obtain ⟨d, hd⟩ : ∃ d, T[k].toNat = d + 48 := ⟨T[k].toNat - 48, by omega⟩
              have hd6 : d < 6 := by omega
              have HD : Hid (byteAt s (arrow s p + 1 + k) = d + 48) := by show _ = _; rw [← hb]; exact hd
              have he := HG.out.ce i d (by omega) hd6
              have hz := HG.out.fz (1 + i * 6 + d) (by omega)
              clear hr1 hr2 hr3 hb
              go_wp2_with fail
              go_region
              all_goals
                go_wp2_with fail
                go_roundw
                case rel =>
                  refine ⟨k + 1, by omega, by go_num, (hb1.setCell (by simp) _).drew, ?_⟩
                  show Gq _ _ _ _ _
                  rw [← marked_succ s _ i _ k d HD.out]
                  exact (HG.out.edge i d (by omega) hd6).drew
                case measure => simp [intOf]; omega
            · have hkn : k = many s p := by omega
              have HN : Hid (k = many s p) := hkn
              clear hkn
              go_wp2_with fail
              go_roundw
              case rel =>
                refine ⟨i + 1, by omega, by go_num, hb1, ?_⟩
                have hg2 := HG.out
                rw [HN.out] at hg2
                have hm2 := mat_snoc s (acc.take i) p
                rw [List.length_take, Nat.min_eq_left (by omega)] at hm2
                rw [hm2, take_snoc hp] at hg2
                exact hg2
              case measure => simp [intOf]; omega
      · go_wp2_with fail
        go_ret
        refine ⟨Below.to hbel hb1, w1.heap.size, hbel.size, rfl, ?_⟩
        have hg2 := HG.out
        rw [List.take_of_length_le (by omega)] at hg2
        rw [← HA.out]
        exact hg2
  · rw [hr0] at hr; exact absurd hr (by simp)

end Go.Proofs.Ytkjnhhbibaimfaa
