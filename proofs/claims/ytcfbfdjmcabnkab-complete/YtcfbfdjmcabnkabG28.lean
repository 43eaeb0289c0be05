import Derived.Test.YtcfbfdjmcabnkabGV6
import Derived.Test.YtcfbfdjmcabnkabG27
import Derived.Test.YtcfbfdjmcabnkabG20
namespace Go.Proofs.Ytcfbfdjmcabnkab
open Go.RowKit Fw
open Go.Deep (BT)
set_option linter.unusedVariables false

theorem lat_err {g f s : ByteArray} {n : Int} (h0 : flt g f s ≠ 0) : lat g f s n = flt g f s := by unfold lat; rw [if_pos h0]
theorem lat_far {g f s : ByteArray} {n : Int} (h0 : flt g f s = 0) (h : ((gphOf g).n : Int) ≤ n) : lat g f s n = 7 := by unfold lat; rw [if_neg (by omega), if_pos (.inr h)]
theorem lat_A {g f s : ByteArray} {i : Nat} (h0 : flt g f s = 0) (h : i < (gphOf g).n) (hA : hasB (pshAll s) 65 = true) : lat g f s (i : Int) = 8 := by
  obtain ⟨hg, hs, hck, hfo, hfr⟩ := flt_zero h0
  rw [(psh_zero hs hfr).1, hasB_iff] at hA
  obtain ⟨d, hd, he⟩ := hA
  rw [bs_list] at hd
  unfold lat
  rw [if_neg (by omega), if_neg (by omega), if_pos ((anyT_iff _).2 ⟨d, hd, he⟩)]
theorem lat_no {g f s : ByteArray} {i : Nat} (h0 : flt g f s = 0) (h : i < (gphOf g).n) (hA : hasB (pshAll s) 65 = false) : lat g f s (i : Int) = 0 := by
  obtain ⟨hg, hs, hck, hfo, hfr⟩ := flt_zero h0
  rw [(psh_zero hs hfr).1] at hA
  unfold lat
  rw [if_neg (by omega), if_neg (by omega), if_neg]
  intro hh
  obtain ⟨d, hd, he⟩ := (anyT_iff _).1 hh
  exact hasB_no hA d hd he

/-- Show where a call is refused -/
theorem show_lat (g f s : ByteArray) (n : Int) (w : World) (hf : f.size ≤ 9223372036854775807) {E : Nat} (he : lat g f s n = E) (h0 : E ≠ 0) :
    Calls Try.prog 9 #[.string g, .string f, .string s, .int .i64 n] w fun e w' => e = .returned (.tuple #[.string ByteArray.empty, .int .i64 (E : Int)]) ∧ Below w.heap.size w w' := by
  refine (show_all g f s n w hf).mono ?_
  rintro e w' ⟨X, E', rfl, h, hb⟩
  rcases h with ⟨_, rfl, rfl⟩ | ⟨h, _⟩ | ⟨h, _⟩
  · rw [he]; exact ⟨rfl, hb⟩
  · omega
  · omega
/-- Replay where a call is refused -/
theorem replay_lat (g f s : ByteArray) (n : Int) (c : ByteArray) (w : World) (hf : f.size ≤ 9223372036854775807) {E : Nat} (hc : c.size ≤ 4000000) (he : lat g f s n = E) (h0 : E ≠ 0) :
    Calls Try.prog 10 #[.string g, .string f, .string s, .int .i64 n, .string c] w fun e w' => e = .returned (.tuple #[.bool false, .int .i64 (E : Int)]) ∧ Below w.heap.size w w' := by
  have h := replay_all g f s n c w hf
  have e1 : rpl g f s n c = (false, E) := by unfold rpl; rw [if_neg (by omega), if_pos (by omega), he]
  rw [e1] at h
  exact h
theorem show_no (g f s : ByteArray) (n : Int) (w : World) (hf : f.size ≤ 9223372036854775807) (he : lat g f s n = 0) (hh : holdsB (gphOf g) (fsOf f) (treeOf s) n.toNat = false) :
    Calls Try.prog 9 #[.string g, .string f, .string s, .int .i64 n] w fun e w' => e = .returned (.tuple #[.string ByteArray.empty, .int .i64 9]) ∧ Below w.heap.size w w' := by
  refine (show_all g f s n w hf).mono ?_
  rintro e w' ⟨X, E', rfl, h, hb⟩
  rcases h with ⟨h, _⟩ | ⟨_, _, rfl, rfl⟩ | ⟨_, h, _⟩
  · exact absurd he h
  · exact ⟨rfl, hb⟩
  · rw [hh] at h; cases h
theorem show_yes (g f s : ByteArray) (n : Int) (w : World) (hf : f.size ≤ 9223372036854775807) (he : lat g f s n = 0) (hh : holdsB (gphOf g) (fsOf f) (treeOf s) n.toNat = true) :
    Calls Try.prog 9 #[.string g, .string f, .string s, .int .i64 n] w fun e w' => ∃ X, e = .returned (.tuple #[.string X, .int .i64 0]) ∧ Below w.heap.size w w' ∧ rpl g f s n X = (true, 0) := by
  refine (show_all g f s n w hf).mono ?_
  rintro e w' ⟨X, E', rfl, h, hb⟩
  rcases h with ⟨h, _⟩ | ⟨_, h, _⟩ | ⟨_, _, rfl, h⟩
  · exact absurd he h
  · rw [hh] at h; cases h
  · exact ⟨X, rfl, hb, h⟩

set_option maxRecDepth 100000 in
set_option maxHeartbeats 1000000 in
theorem shown_no (g f s : ByteArray) (n : Int) (w : World) (hf : f.size ≤ 9223372036854775807) (he : lat g f s n = 0) (hh : holdsB (gphOf g) (fsOf f) (treeOf s) n.toNat = false) :
    Calls Try.prog 12 #[.string g, .string f, .string s, .int .i64 n, .bool false] w fun e w' => e = .returned (.bool true) ∧ Below w.heap.size w w' := by
  have HS : Hid (∀ W, Calls Try.prog 9 #[.string g, .string f, .string s, .int .i64 n] W fun e w' => e = .returned (.tuple #[.string ByteArray.empty, .int .i64 9]) ∧ Below W.heap.size W w') := fun W => show_no g f s n W hf he hh
  clear he hh
  go_enter Try.func12, Try.ntmps12
  go_wp2_with fail
  refine (HS.out _).mono ?_
  rintro e w1 ⟨rfl, hb1⟩
  go_wp2_with fail
  go_ret
  exact ⟨rfl, hb1⟩

set_option maxRecDepth 100000 in
set_option maxHeartbeats 1000000 in
theorem shown_yes (g f s : ByteArray) (n : Int) (w : World) (hf : f.size ≤ 9223372036854775807) (he : lat g f s n = 0) (hh : holdsB (gphOf g) (fsOf f) (treeOf s) n.toNat = true) :
    Calls Try.prog 12 #[.string g, .string f, .string s, .int .i64 n, .bool true] w fun e w' => e = .returned (.bool true) ∧ Below w.heap.size w w' := by
  have HS : Hid (∀ W, Calls Try.prog 9 #[.string g, .string f, .string s, .int .i64 n] W fun e w' => ∃ X, e = .returned (.tuple #[.string X, .int .i64 0]) ∧ Below W.heap.size W w' ∧ Hid (∀ W2, Calls Try.prog 10 #[.string g, .string f, .string s, .int .i64 n, .string X] W2 fun e w' => e = .returned (.tuple #[.bool true, .int .i64 0]) ∧ Below W2.heap.size W2 w')) := fun W => by
    refine (show_yes g f s n W hf he hh).mono ?_
    rintro e w' ⟨X, rfl, hb, hr⟩
    refine ⟨X, rfl, hb, fun W2 => ?_⟩
    have h := replay_all g f s n X W2 hf
    rw [hr] at h
    exact h
  clear he hh
  go_enter Try.func12, Try.ntmps12
  go_wp2_with fail
  refine (HS.out _).mono ?_
  rintro e w1 ⟨X, rfl, hb1, HR⟩
  go_wp2_with fail
  refine (HR.out _).mono ?_
  rintro e w2 ⟨rfl, hb2⟩
  go_wp2_with fail
  go_ret
  exact ⟨rfl, Below.to hb1 hb2⟩

set_option maxRecDepth 100000 in
set_option maxHeartbeats 2000000 in
theorem complete_walk (g f s : ByteArray) (n : Int) (w : World) (hf : f.size ≤ 9223372036854775807) (hn : (Lit.int .i64 n).wf = true) :
    Calls Try.prog 3 #[.string g, .string f, .string s, .int .i64 n] w fun e w' => e = .returned (.bool true) ∧ Below w.heap.size w w' := by
  have HSA := fun W => solve_all g f s W hf
  have HPU := fun W => push_all s W
  have HPK := fun W => pick_30 n W hn
  by_cases h0 : flt g f s = 0
  · obtain ⟨hg, hs, hck, hfo, hfr⟩ := flt_zero h0
    have hn6 : (gphOf g).n ≤ 6 := (run_starts g 6 0 (by omega)).1
    have hpl : (pshAll s).size ≤ 1000 := by rw [(psh_zero hs hfr).1]; exact push_le hs hfr
    rw [sol_zero h0] at HSA
    rw [(psh_zero hs hfr).2] at HPU
    have HFS : Hid (∀ (m : Nat) W, Calls Try.prog 9 #[.string g, .string f, .string s, .int .i64 (((gphOf g).n : Int) + (m : Int))] W fun e w' => e = .returned (.tuple #[.string ByteArray.empty, .int .i64 7]) ∧ Below W.heap.size W w') := fun m W => show_lat g f s _ W hf (E := 7) (lat_far h0 (by omega)) (by omega)
    have HFR : Hid (∀ (m : Nat) W, Calls Try.prog 10 #[.string g, .string f, .string s, .int .i64 (((gphOf g).n : Int) + (m : Int)), .string ⟨#[46]⟩] W fun e w' => e = .returned (.tuple #[.bool false, .int .i64 7]) ∧ Below W.heap.size W w') := fun m W => replay_lat g f s _ _ W hf (E := 7) (by decide) (lat_far h0 (by omega)) (by omega)
    have HHA := fun W => has_is (pshAll s) 65 W hpl
    have HAS : Hid (hasB (pshAll s) 65 = true → ∀ (i : Nat) W, i < (gphOf g).n → Calls Try.prog 9 #[.string g, .string f, .string s, .int .i64 (i : Int)] W fun e w' => e = .returned (.tuple #[.string ByteArray.empty, .int .i64 8]) ∧ Below W.heap.size W w') := fun h i W hi => show_lat g f s _ W hf (E := 8) (lat_A h0 hi h) (by omega)
    have HAR : Hid (hasB (pshAll s) 65 = true → ∀ (i : Nat) W, i < (gphOf g).n → Calls Try.prog 10 #[.string g, .string f, .string s, .int .i64 (i : Int), .string ⟨#[]⟩] W fun e w' => e = .returned (.tuple #[.bool false, .int .i64 8]) ∧ Below W.heap.size W w') := fun h i W hi => replay_lat g f s _ _ W hf (E := 8) (by decide) (lat_A h0 hi h) (by omega)
    have HSN : Hid (hasB (pshAll s) 65 = false → ∀ (i : Nat) W, i < (gphOf g).n → Calls Try.prog 12 #[.string g, .string f, .string s, .int .i64 (i : Int), .bool (holdsB (gphOf g) (fsOf f) (treeOf s) i)] W fun e w' => e = .returned (.bool true) ∧ Below W.heap.size W w') := fun h i W hi => by
      cases hh : holdsB (gphOf g) (fsOf f) (treeOf s) i with
      | false => exact shown_no g f s _ W hf (lat_no h0 hi h) (by simpa using hh)
      | true => exact shown_yes g f s _ W hf (lat_no h0 hi h) (by simpa using hh)
    obtain ⟨N, hN⟩ : ∃ N, N = (gphOf g).n := ⟨_, rfl⟩
    obtain ⟨H, hH⟩ : ∃ H, H = holdsB (gphOf g) (fsOf f) (treeOf s) := ⟨_, rfl⟩
    obtain ⟨p, hp⟩ : ∃ p, p = pshAll s := ⟨_, rfl⟩
    rw [← hN] at HSA HFS HFR HAS HAR HSN hn6
    rw [← hH] at HSA HSN
    rw [← hp] at HPU HHA HAS HAR HSN hpl
    have hl1 : (bs (bitsU H N)).size = N := by rw [bs_size, bitsU_len]
    obtain ⟨X, hX⟩ : ∃ X, X = bs (bitsU H N) := ⟨_, rfl⟩
    have HXX : Hid (∀ (i : Nat) (hi : i < X.size), X[i].toNat = if H i = true then 49 else 48) := fun i hi => bits_at H N i X hX hi
    rw [← hX] at hl1 HSA
    obtain ⟨a, ha⟩ : ∃ a, a = hasB p 65 := ⟨_, rfl⟩
    rw [← ha] at HHA HAS HAR HSN
    clear ha hX hp hH hN h0 hg hs hck hfo hfr
    subst hl1
    go_enter Try.func3, Try.ntmps3
    go_wp2_with fail
    refine (awake_yes _).mono ?_
    rintro e w1 ⟨rfl, hb1⟩
    go_wp2_with fail
    refine (replays_yes _).mono ?_
    rintro e w2 ⟨rfl, hb2⟩
    go_wp2_with fail
    refine (HSA _).mono ?_
    rintro e w3 ⟨rfl, hb3⟩
    go_wp2_with fail
    refine (HPU _).mono ?_
    rintro e w4 ⟨rfl, hb4⟩
    go_wp2_with fail
    refine (HPK _).mono ?_
    rintro e w5 ⟨⟨m, hm, rfl⟩, rfl⟩
    have wm : IntKind.i64.wrap ((X.size : Int) + (m : Int)) = (X.size : Int) + (m : Int) := wrap_small _ (by omega) (by omega)
    go_wp2_with fail
    refine (HFS.out m _).mono ?_
    rintro e w6 ⟨rfl, hb6⟩
    go_wp2_with fail
    refine (HFR.out m _).mono ?_
    rintro e w7 ⟨rfl, hb7⟩
    have HB7 : Hid (Below w.heap.size w w7) := Below.to (Below.to (Below.to (Below.to (Below.to hb1 hb2) hb3) hb4) hb6) hb7
    clear hb1 hb2 hb3 hb4 hb6 hb7 HSA HPU HPK HFS HFR
    go_wp2_with fail
    go_loopw [21] (fun q wr => ∃ i : Nat, i ≤ X.size ∧ q = .int .i64 i ∧ Hid (Below w.heap.size w wr)) (fun q _ => X.size - (intOf q).toNat)
    case atStart => exact ⟨0, by omega, rfl, HB7⟩
    case round =>
      clear HB7
      obtain ⟨i, hi, rfl, HB⟩ := hrel
      by_cases hlt : i < X.size
      · have i0 : (0 : Int) ≤ (i : Int) := by omega
        have i1 : (i : Int) < (X.size : Int) := by omega
        cases a with
        | true =>
          have HAS1 : Hid (∀ W, Calls Try.prog 9 #[.string g, .string f, .string s, .int .i64 (i : Int)] W fun e w' => e = .returned (.tuple #[.string ByteArray.empty, .int .i64 8]) ∧ Below W.heap.size W w') := fun W => HAS.out rfl i W hlt
          have HAR1 : Hid (∀ W, Calls Try.prog 10 #[.string g, .string f, .string s, .int .i64 (i : Int), .string ⟨#[]⟩] W fun e w' => e = .returned (.tuple #[.bool false, .int .i64 8]) ∧ Below W.heap.size W w') := fun W => HAR.out rfl i W hlt
          go_wp2_with fail
          refine (HHA _).mono ?_
          rintro e w8 ⟨rfl, rfl⟩
          go_wp2_with fail
          refine (HAS1.out _).mono ?_
          rintro e w9 ⟨rfl, hb9⟩
          go_wp2_with fail
          refine (HAR1.out _).mono ?_
          rintro e w10 ⟨rfl, hb10⟩
          have HB1 : Hid (Below w.heap.size w w10) := Below.to (Below.to HB.out hb9) hb10
          clear hb9 hb10
          go_wp2_with fail
          go_roundw
          case rel => exact ⟨i + 1, by omega, by go_num, HB1⟩
          case measure => simp [intOf]; omega
        | false =>
          have HSN1 : Hid (∀ W, Calls Try.prog 12 #[.string g, .string f, .string s, .int .i64 (i : Int), .bool (H i)] W fun e w' => e = .returned (.bool true) ∧ Below W.heap.size W w') := fun W => HSN.out rfl i W hlt
          have xk := HXX.out i hlt
          obtain ⟨y, hy⟩ : ∃ y, H i = y := ⟨_, rfl⟩
          rw [hy] at xk HSN1
          clear hy
          cases y with
          | true =>
            rw [if_pos rfl] at xk
            have x1 : ((X[i].toNat : Int) == 49) = true := by rw [beq_iff_eq]; omega
            clear xk
            go_wp2_with fail
            refine (HHA _).mono ?_
            rintro e w8 ⟨rfl, rfl⟩
            go_wp2_with fail
            refine (HSN1.out _).mono ?_
            rintro e w9 ⟨rfl, hb9⟩
            have HB1 : Hid (Below w.heap.size w w9) := Below.to HB.out hb9
            clear hb9
            go_wp2_with fail
            go_roundw
            case rel => exact ⟨i + 1, by omega, by go_num, HB1⟩
            case measure => simp [intOf]; omega
          | false =>
            rw [if_neg (by simp)] at xk
            have x1 : ((X[i].toNat : Int) == 49) = false := by rw [beq_eq_false_iff_ne]; omega
            clear xk
            go_wp2_with fail
            refine (HHA _).mono ?_
            rintro e w8 ⟨rfl, rfl⟩
            go_wp2_with fail
            refine (HSN1.out _).mono ?_
            rintro e w9 ⟨rfl, hb9⟩
            have HB1 : Hid (Below w.heap.size w w9) := Below.to HB.out hb9
            clear hb9
            go_wp2_with fail
            go_roundw
            case rel => exact ⟨i + 1, by omega, by go_num, HB1⟩
            case measure => simp [intOf]; omega
      · go_wp2_with fail
        go_ret
        exact ⟨rfl, HB.out⟩
  · rw [sol_err h0] at HSA
    have HFS : Hid (∀ (m : Nat) W, Calls Try.prog 9 #[.string g, .string f, .string s, .int .i64 (m : Int)] W fun e w' => e = .returned (.tuple #[.string ByteArray.empty, .int .i64 (flt g f s : Int)]) ∧ Below W.heap.size W w') := fun m W => show_lat g f s _ W hf (E := flt g f s) (lat_err h0) h0
    have HFR : Hid (∀ (m : Nat) W, Calls Try.prog 10 #[.string g, .string f, .string s, .int .i64 (m : Int), .string ⟨#[46]⟩] W fun e w' => e = .returned (.tuple #[.bool false, .int .i64 (flt g f s : Int)]) ∧ Below W.heap.size W w') := fun m W => replay_lat g f s _ _ W hf (E := flt g f s) (by decide) (lat_err h0) h0
    obtain ⟨E, hE⟩ : ∃ E, E = flt g f s := ⟨_, rfl⟩
    rw [← hE] at h0 HSA HFS HFR
    have hne : ((E : Int) == 0) = false := by rw [beq_eq_false_iff_ne]; omega
    have hne2 : ((E : Int) != (E : Int)) = false := by simp
    obtain ⟨p, hp⟩ : ∃ p, p = pshAll s := ⟨_, rfl⟩
    obtain ⟨q2, hq2⟩ : ∃ q2, q2 = (frmAll s).1 := ⟨_, rfl⟩
    rw [← hp, ← hq2] at HPU
    clear hE hp hq2 h0
    go_enter Try.func3, Try.ntmps3
    go_wp2_with fail
    refine (awake_yes _).mono ?_
    rintro e w1 ⟨rfl, hb1⟩
    go_wp2_with fail
    refine (replays_yes _).mono ?_
    rintro e w2 ⟨rfl, hb2⟩
    go_wp2_with fail
    refine (HSA _).mono ?_
    rintro e w3 ⟨rfl, hb3⟩
    go_wp2_with fail
    refine (HPU _).mono ?_
    rintro e w4 ⟨rfl, hb4⟩
    go_wp2_with fail
    refine (HPK _).mono ?_
    rintro e w5 ⟨⟨m, hm, rfl⟩, rfl⟩
    have wm : IntKind.i64.wrap (m : Int) = (m : Int) := wrap_small _ (by omega) (by omega)
    go_wp2_with fail
    refine (HFS.out m _).mono ?_
    rintro e w6 ⟨rfl, hb6⟩
    go_wp2_with fail
    refine (HFR.out m _).mono ?_
    rintro e w7 ⟨rfl, hb7⟩
    have HB7 : Hid (Below w.heap.size w w7) := Below.to (Below.to (Below.to (Below.to (Below.to hb1 hb2) hb3) hb4) hb6) hb7
    clear hb1 hb2 hb3 hb4 hb6 hb7 HSA HPU HPK HFS HFR
    go_wp2_with fail
    go_loopw [21] (fun q wr => q = .int .i64 0 ∧ Hid (Below w.heap.size w wr)) (fun _ _ => 0)
    case atStart => exact ⟨rfl, HB7⟩
    case round =>
      obtain ⟨rfl, HB⟩ := hrel
      go_wp2_with fail
      go_ret
      exact ⟨rfl, HB.out⟩

end Go.Proofs.Ytcfbfdjmcabnkab

