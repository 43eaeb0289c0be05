import Derived.Test.YtkjnhhbibaimfaaSe
namespace Go.Proofs.Ytkjnhhbibaimfaa
open Go.RowKit Fw
set_option linter.unusedVariables false

/-- does one of the first n bear it -/
def anyU (p : Nat → Bool) (n : Nat) : Bool := (List.range n).any p
theorem anyU_zero (p : Nat → Bool) : anyU p 0 = false := rfl
theorem anyU_succ (p : Nat → Bool) (n : Nat) : anyU p (n + 1) = (anyU p n || p n) := by
  simp [anyU, List.range_succ]
theorem anyU_anyN (G : Gph) (p : Nat → Bool) : anyU p G.n = anyN G p := rfl

def meets (G : Gph) (M : Nat → Nat → Bool) (S : Nat → Bool) (c f d : Nat) : Bool := S d && G.m d f && M c d && M d c
def allM (G : Gph) (M : Nat → Nat → Bool) (S : Nat → Bool) (c : Nat) (l : List UInt8) : Bool := (l.map (·.toNat)).all fun f => anyU (meets G M S c f) G.n

theorem allM_nil (G : Gph) (M : Nat → Nat → Bool) (S : Nat → Bool) (c : Nat) {s : ByteArray} {k : Nat} (h : s.size ≤ k) : allM G M S c (tl s k) = true := by
  rw [tl_nil s k h]; rfl
theorem allM_cons (G : Gph) (M : Nat → Nat → Bool) (S : Nat → Bool) (c : Nat) {s : ByteArray} {k : Nat} (h : k < s.size) : allM G M S c (tl s k) = (anyU (meets G M S c s[k].toNat) G.n && allM G M S c (tl s (k + 1))) := by
  rw [tl_cons s k h]; rfl

theorem mat_box (w : World) (M : Nat → Nat → Bool) (t : TypeId) : Mat (w.alloc (.cells (bools 36 (flat6 M)).toArray t)) w.heap.size M := by
  have hb := heap_alloc_new w (.cells (bools 36 (flat6 M)).toArray t)
  refine ⟨by simp, fun i j hi hj => ?_, fun o _ => frozen_of_row _ _ _ _ _ hb⟩
  rw [cell_of_row _ _ _ _ _ _ hb]
  have hl : i * 6 + j < 36 := by omega
  simp only [bools, List.getElem?_toArray, List.getElem?_map, List.getElem?_range hl, Option.map_some, flat6]
  rw [show (i * 6 + j) / 6 = i from by omega, show (i * 6 + j) % 6 = j from by omega]

set_option maxRecDepth 100000 in
set_option maxHeartbeats 4000000 in
theorem round_is (gb c : Nat) (G : Gph) (mk : Nat → ByteArray) (M : Nat → Nat → Bool) (S : Nat → Bool) (f : ByteArray) (w : World) (hc : c < 6) (hf : f.size ≤ 1000) (HG : Hid (Gm w gb G mk)) :
    Calls Try.prog 115 #[.pointer (some ⟨gb, 0, none⟩), .agg (bools 36 (flat6 M)).toArray, .agg (six S), .int .i64 (c : Int), .string f] w fun e w' => e = .returned (.bool (S c && M c c && allM G M S c (tl f 0))) ∧ Below w.heap.size w w' := by
  have hg6 := HG.out.n6
  have hgl := HG.out.lt
  have HB0 := mat_box w M 113
  obtain ⟨C, hC⟩ : ∃ C, C = (bools 36 (flat6 M)).toArray := ⟨_, rfl⟩
  rw [← hC]
  rw [← hC] at HB0
  clear hC
  have HB : Hid (Mat (w.alloc (.cells C 113)) w.heap.size M) := HB0
  clear HB0
  have HA0 : Hid (Arr ((w.alloc (.cells C 113)).alloc (.cells (six S) 111)) (w.heap.size + 1) 6 S) := arr_at _ S 111 _ (by simp)
  have HM0 : Hid (Mat ((w.alloc (.cells C 113)).alloc (.cells (six S) 111)) w.heap.size M) := HB.out.alloc _
  clear HB
  have hb2 := below2S w (.cells C 113) (.cells (six S) 111)
  have c0 : (0 : Int) ≤ (c : Int) := by omega
  have c1 : (c : Int) < 6 := by omega
  have ca := HA0.out.c c hc
  have cm := HM0.out.c c c hc hc
  obtain ⟨x, hx⟩ : ∃ x, x = S c := ⟨_, rfl⟩
  obtain ⟨y, hy⟩ : ∃ y, y = M c c := ⟨_, rfl⟩
  rw [← hx] at ca
  rw [← hy] at cm
  rw [← hx, ← hy]
  clear hx hy
  go_enter Try.func115, Try.ntmps115
  cases x with
  | false =>
    go_wp2_with fail
    go_ret
    exact ⟨rfl, hb2⟩
  | true =>
    cases y with
    | false =>
      go_wp2_with fail
      go_ret
      exact ⟨rfl, hb2⟩
    | true =>
      go_wp2_with fail
      clear ca cm
      go_loopw [11] (fun q wr => ∃ k : Nat, k ≤ f.size ∧ q = .int .i64 k ∧ Below w.heap.size w wr ∧ Hid (Mat wr w.heap.size M) ∧ Hid (Arr wr (w.heap.size + 1) 6 S) ∧ Hid (allM G M S c (tl f k) = allM G M S c (tl f 0))) (fun q _ => f.size - (intOf q).toNat)
      case atStart => exact ⟨0, by omega, rfl, hb2, HM0, HA0, rfl⟩
      case round =>
        clear HM0 HA0 hb2
        obtain ⟨k, hk, rfl, hbel, HM, HA, HF⟩ := hrel
        by_cases hlt : k < f.size
        · go_wp2_with fail
          go_loopw [12, 13] (fun t q wr => ∃ (d : Nat) (b : Bool), d ≤ G.n ∧ t = .bool b ∧ q = .int .i64 d ∧ Below w.heap.size w wr ∧ Hid (Mat wr w.heap.size M) ∧ Hid (Arr wr (w.heap.size + 1) 6 S) ∧ Hid (anyU (meets G M S c f[k].toNat) d = b)) (fun _ q _ => G.n - (intOf q).toNat)
          case atStart => exact ⟨0, false, by omega, rfl, rfl, hbel, HM, HA, rfl⟩
          case round =>
            clear hbel HM HA
            obtain ⟨d, b, hd, rfl, rfl, hbel, HM, HA, HD⟩ := hrel
            have HGr : Hid (Gm _ gb G mk) := HG.out.below hbel hgl
            have hn := HGr.out.cn
            by_cases hdl : d < G.n
            · have ca := HA.out.c d (by omega)
              have cm := HM.out.c c d (by omega) (by omega)
              have cn := HM.out.c d c (by omega) (by omega)
              have d0 : (0 : Int) ≤ (d : Int) := by omega
              have d1 : (d : Int) < 6 := by omega
              have HS : Hid (anyU (meets G M S c f[k].toNat) (d + 1) = (b || (S d && G.m d f[k].toNat && M c d && M d c))) := by
                show _ = _
                rw [anyU_succ, HD.out]; rfl
              obtain ⟨x, hx⟩ : ∃ x, x = S d := ⟨_, rfl⟩
              obtain ⟨y, hy⟩ : ∃ y, y = M c d := ⟨_, rfl⟩
              obtain ⟨z, hz⟩ : ∃ z, z = M d c := ⟨_, rfl⟩
              obtain ⟨m, hm⟩ : ∃ m, m = G.m d f[k].toNat := ⟨_, rfl⟩
              rw [← hx] at ca
              rw [← hy] at cm
              rw [← hz] at cn
              rw [← hx, ← hy, ← hz, ← hm] at HS
              have HC : ∀ w', Hid (Gm w' gb G mk) → Calls Try.prog 100 #[.pointer (some ⟨gb, 0, none⟩), .int .i64 (d : Int), .int .u8 (f[k].toNat : Int)] w' fun e w'' => e = .returned (.bool m) ∧ ∃ n, w'' = w'.drewN n := by
                intro w' h
                rw [hm]
                exact bears_is gb d f[k].toNat G mk w' (by omega) h
              clear hx hy hz hm
              cases b with
              | true =>
                go_wp2_with fail
                go_roundw
                case rel => exact ⟨d + 1, true, by omega, rfl, by go_num, hbel, HM, HA, by show _ = _; rw [HS.out]; rfl⟩
                case measure => simp [intOf]; omega
              | false =>
                cases x with
                | false =>
                  go_wp2_with fail
                  go_roundw
                  case rel => exact ⟨d + 1, false, by omega, rfl, by go_num, hbel, HM, HA, by show _ = _; rw [HS.out]; rfl⟩
                  case measure => simp [intOf]; omega
                | true =>
                  cases m with
                  | false =>
                    go_wp2_with (go_at_call 100; refine (HC _ HGr).mono ?_; rintro e w1 ⟨rfl, n, rfl⟩)
                    go_roundw
                    case rel => exact ⟨d + 1, false, by omega, rfl, by go_num, below_drewN hbel n, HM.out.drewN n, HA.out.drewN n, by show _ = _; rw [HS.out]; rfl⟩
                    case measure => simp [intOf]; omega
                  | true =>
                    cases y with
                    | false =>
                      go_wp2_with (go_at_call 100; refine (HC _ HGr).mono ?_; rintro e w1 ⟨rfl, n, rfl⟩)
                      go_roundw
                      case rel => exact ⟨d + 1, false, by omega, rfl, by go_num, below_drewN hbel n, HM.out.drewN n, HA.out.drewN n, by show _ = _; rw [HS.out]; rfl⟩
                      case measure => simp [intOf]; omega
                    | true =>
                      go_wp2_with (go_at_call 100; refine (HC _ HGr).mono ?_; rintro e w1 ⟨rfl, n, rfl⟩)
                      go_roundw
                      case rel => exact ⟨d + 1, z, by omega, rfl, by go_num, below_drewN hbel n, HM.out.drewN n, HA.out.drewN n, by show _ = _; rw [HS.out]; simp⟩
                      case measure => simp [intOf]; omega
            · have hdn : d = G.n := by omega
              have HN : Hid (d = G.n) := hdn
              clear hdn
              have HE : Hid (allM G M S c (tl f 0) = (b && allM G M S c (tl f (k + 1)))) := by
                show _ = _
                rw [← HF.out, allM_cons G M S c hlt, ← HN.out, HD.out]
              cases b with
              | false =>
                go_wp2_with fail
                go_ret
                exact ⟨by rw [HE.out]; rfl, hbel⟩
              | true =>
                go_wp2_with fail
                go_roundw
                case rel => exact ⟨k + 1, by omega, by go_num, hbel, HM, HA, by show _ = _; rw [HE.out]; simp⟩
                case measure => simp [intOf]; omega
        · go_wp2_with fail
          go_ret
          exact ⟨by rw [← HF.out, allM_nil G M S c (by omega)]; rfl, hbel⟩

end Go.Proofs.Ytkjnhhbibaimfaa
