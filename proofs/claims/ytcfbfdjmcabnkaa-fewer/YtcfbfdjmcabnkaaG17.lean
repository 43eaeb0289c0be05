import Derived.Test.YtcfbfdjmcabnkaaG16
import Derived.Test.YtcfbfdjmcabnkaaG3
namespace Go.Proofs.Ytcfbfdjmcabnkaa
open Go.RowKit Fw
open Go.Deep (BT)
set_option linter.unusedVariables false

theorem fairOk_none : fairOk ⟨#[]⟩ = true := by decide
theorem fsOf_none : fsOf ⟨#[]⟩ = [] := rfl

set_option maxRecDepth 100000 in
set_option maxHeartbeats 2000000 in
theorem fewer_walk (g f s : ByteArray) (w : World) (hf : f.size ≤ 9223372036854775807) :
    Calls Try.prog 8 #[.string g, .string f, .string s] w fun e w' => e = .returned (.bool true) ∧ Below w.heap.size w w' := by
  have HAW := fun W => awake_yes W
  have HPU := fun W => push_all s W
  have HSO := fun W => solve_all g f s W hf
  have HS0 := fun W => solve_all g ⟨#[]⟩ s W (by decide)
  by_cases h0 : flt g f s = 0
  · obtain ⟨hg, hs, hck, hfo, hfr⟩ := flt_zero h0
    have h1 : flt g ⟨#[]⟩ s = 0 := by rw [flt_of hg hs hck fairOk_none]; exact hfr
    obtain ⟨hp1, hp2⟩ := psh_zero hs hfr
    obtain ⟨hbA, hbE⟩ := fewer_bits (gph_ok hck) (fs := fsOf f) (frm_zero hfr).2
    have hpl := push_le hs hfr
    have hn6 : (gphOf g).n ≤ 6 := (run_starts g 6 0 (by omega)).1
    rw [sol_zero h0] at HSO
    rw [sol_zero h1, fsOf_none] at HS0
    rw [hp1, hp2] at HPU
    obtain ⟨n, hn⟩ : ∃ n, n = (gphOf g).n := ⟨_, rfl⟩
    obtain ⟨H, hH⟩ : ∃ H, H = holdsB (gphOf g) (fsOf f) (treeOf s) := ⟨_, rfl⟩
    obtain ⟨I, hI⟩ : ∃ I, I = holdsB (gphOf g) [] (treeOf s) := ⟨_, rfl⟩
    obtain ⟨p, hp⟩ : ∃ p, p = bs (push (treeOf s) false) := ⟨_, rfl⟩
    rw [← hn, ← hH] at HSO
    rw [← hn, ← hI] at HS0
    rw [← hp] at HPU hpl hbA hbE
    rw [← hn] at hn6
    simp only [← hH, ← hI, ← hn] at hbA hbE
    have HA := fun W => has_is p 65 W hpl
    have HE := fun W => has_is p 69 W hpl
    have HbA : Hid (hasB p 65 = false → ∀ i, i < n → H i = true → I i = true) := hbA
    have HbE : Hid (hasB p 69 = false → ∀ i, i < n → I i = true → H i = true) := hbE
    clear hbA hbE hp hI hH hn hp1 hp2 h1 hfr hfo hck hs hg h0
    have hl1 : (bs (bitsU H n)).size = n := by rw [bs_size, bitsU_len]
    have hl2 : (bs (bitsU I n)).size = n := by rw [bs_size, bitsU_len]
    obtain ⟨X, hX⟩ : ∃ X, X = bs (bitsU H n) := ⟨_, rfl⟩
    obtain ⟨Y, hY⟩ : ∃ Y, Y = bs (bitsU I n) := ⟨_, rfl⟩
    have HXX : Hid (∀ (i : Nat) (hi : i < X.size), X[i].toNat = if H i = true then 49 else 48) := fun i hi => bits_at H n i X hX hi
    have HYY : Hid (∀ (i : Nat) (hi : i < Y.size), Y[i].toNat = if I i = true then 49 else 48) := fun i hi => bits_at I n i Y hY hi
    rw [← hX] at hl1 HSO
    rw [← hY] at hl2 HS0
    clear hX hY
    obtain ⟨a, ha⟩ : ∃ a, a = hasB p 65 := ⟨_, rfl⟩
    obtain ⟨b, hb⟩ : ∃ b, b = hasB p 69 := ⟨_, rfl⟩
    rw [← ha] at HA HbA
    rw [← hb] at HE HbE
    clear ha hb
    have hxy : ((X.size : Int) != (Y.size : Int)) = false := by rw [bne_eq_false_iff_eq]; omega
    go_enter Try.func8, Try.ntmps8
    go_wp2_with (first
      | (go_at_call 16; refine (HAW _).mono ?_; rintro e w1 ⟨rfl, hb1⟩)
      | (go_at_call 19; refine (HPU _).mono ?_; rintro e w2 ⟨rfl, hb2⟩)
      | (go_at_call_of 17 (Value.string f); refine (HSO _).mono ?_; rintro e w3 ⟨rfl, hb3⟩)
      | (go_at_call 17; refine (HS0 _).mono ?_; rintro e w4 ⟨rfl, hb4⟩))
    have hbel : Below w.heap.size w w4 := Below.to (Below.to (Below.to hb1 hb2) hb3) hb4
    go_loop [14] (fun q => ∃ k : Nat, k ≤ n ∧ q = .int .i64 k) (fun q => n - (intOf q).toNat)
    case atStart => exact ⟨0, by omega, rfl⟩
    case round =>
      obtain ⟨k, hk, rfl⟩ := hrel
      by_cases hlt : k < n
      · have hkX : k < X.size := by omega
        have hkY : k < Y.size := by omega
        have k0 : (0 : Int) ≤ (k : Int) := by omega
        have k1 : (k : Int) < (X.size : Int) := by omega
        have k2 : (k : Int) < (Y.size : Int) := by omega
        have xk := HXX.out k hkX
        have yk := HYY.out k hkY
        have qA : a = false → H k = true → I k = true := fun h => HbA.out h k hlt
        have qE : b = false → I k = true → H k = true := fun h => HbE.out h k hlt
        cases hHk : H k with
        | true =>
          rw [hHk, if_pos rfl] at xk
          cases hIk : I k with
          | true =>
            rw [hIk, if_pos rfl] at yk
            have x1 : ((X[k].toNat : Int) == 49) = true := by rw [beq_iff_eq]; omega
            have y1 : ((Y[k].toNat : Int) == 49) = true := by rw [beq_iff_eq]; omega
            have x2 : ((X[k].toNat : Int) != 49) = false := by rw [bne_eq_false_iff_eq]; omega
            have y2 : ((Y[k].toNat : Int) != 49) = false := by rw [bne_eq_false_iff_eq]; omega
            clear qA qE hHk hIk xk yk
            cases a with
            | true =>
              cases b with
              | true =>
                go_wp2_with (first
                  | (go_at_call_of 23 (Value.int IntKind.u8 65); refine (HA _).mono ?_; rintro e w5 ⟨rfl, rfl⟩)
                  | (go_at_call 23; refine (HE _).mono ?_; rintro e w5 ⟨rfl, rfl⟩))
                go_round
                case rel => exact ⟨k + 1, by omega, by go_num⟩
                case measure => simp [intOf]; omega
              | false =>
                go_wp2_with (first
                  | (go_at_call_of 23 (Value.int IntKind.u8 65); refine (HA _).mono ?_; rintro e w5 ⟨rfl, rfl⟩)
                  | (go_at_call 23; refine (HE _).mono ?_; rintro e w5 ⟨rfl, rfl⟩))
                go_round
                case rel => exact ⟨k + 1, by omega, by go_num⟩
                case measure => simp [intOf]; omega
            | false =>
              cases b with
              | true =>
                go_wp2_with (first
                  | (go_at_call_of 23 (Value.int IntKind.u8 65); refine (HA _).mono ?_; rintro e w5 ⟨rfl, rfl⟩)
                  | (go_at_call 23; refine (HE _).mono ?_; rintro e w5 ⟨rfl, rfl⟩))
                go_round
                case rel => exact ⟨k + 1, by omega, by go_num⟩
                case measure => simp [intOf]; omega
              | false =>
                go_wp2_with (first
                  | (go_at_call_of 23 (Value.int IntKind.u8 65); refine (HA _).mono ?_; rintro e w5 ⟨rfl, rfl⟩)
                  | (go_at_call 23; refine (HE _).mono ?_; rintro e w5 ⟨rfl, rfl⟩))
                go_round
                case rel => exact ⟨k + 1, by omega, by go_num⟩
                case measure => simp [intOf]; omega
          | false =>
            rw [hIk, if_neg (by simp)] at yk
            have hat : a = true := by
              cases a with
              | true => rfl
              | false => have := qA rfl hHk; rw [hIk] at this; cases this
            subst hat
            have x1 : ((X[k].toNat : Int) == 49) = true := by rw [beq_iff_eq]; omega
            have y1 : ((Y[k].toNat : Int) == 49) = false := by rw [beq_eq_false_iff_ne]; omega
            have x2 : ((X[k].toNat : Int) != 49) = false := by rw [bne_eq_false_iff_eq]; omega
            have y2 : ((Y[k].toNat : Int) != 49) = true := by rw [bne_iff_ne]; omega
            clear qA qE hHk hIk xk yk
            cases b with
            | true =>
              go_wp2_with (first
                | (go_at_call_of 23 (Value.int IntKind.u8 65); refine (HA _).mono ?_; rintro e w5 ⟨rfl, rfl⟩)
                | (go_at_call 23; refine (HE _).mono ?_; rintro e w5 ⟨rfl, rfl⟩))
              go_round
              case rel => exact ⟨k + 1, by omega, by go_num⟩
              case measure => simp [intOf]; omega
            | false =>
              go_wp2_with (first
                | (go_at_call_of 23 (Value.int IntKind.u8 65); refine (HA _).mono ?_; rintro e w5 ⟨rfl, rfl⟩)
                | (go_at_call 23; refine (HE _).mono ?_; rintro e w5 ⟨rfl, rfl⟩))
              go_round
              case rel => exact ⟨k + 1, by omega, by go_num⟩
              case measure => simp [intOf]; omega
        | false =>
          rw [hHk, if_neg (by simp)] at xk
          cases hIk : I k with
          | true =>
            rw [hIk, if_pos rfl] at yk
            have hbt : b = true := by
              cases b with
              | true => rfl
              | false => have := qE rfl hIk; rw [hHk] at this; cases this
            subst hbt
            have x1 : ((X[k].toNat : Int) == 49) = false := by rw [beq_eq_false_iff_ne]; omega
            have y1 : ((Y[k].toNat : Int) == 49) = true := by rw [beq_iff_eq]; omega
            have x2 : ((X[k].toNat : Int) != 49) = true := by rw [bne_iff_ne]; omega
            have y2 : ((Y[k].toNat : Int) != 49) = false := by rw [bne_eq_false_iff_eq]; omega
            clear qA qE hHk hIk xk yk
            cases a with
            | true =>
              go_wp2_with (first
                | (go_at_call_of 23 (Value.int IntKind.u8 65); refine (HA _).mono ?_; rintro e w5 ⟨rfl, rfl⟩)
                | (go_at_call 23; refine (HE _).mono ?_; rintro e w5 ⟨rfl, rfl⟩))
              go_round
              case rel => exact ⟨k + 1, by omega, by go_num⟩
              case measure => simp [intOf]; omega
            | false =>
              go_wp2_with (first
                | (go_at_call_of 23 (Value.int IntKind.u8 65); refine (HA _).mono ?_; rintro e w5 ⟨rfl, rfl⟩)
                | (go_at_call 23; refine (HE _).mono ?_; rintro e w5 ⟨rfl, rfl⟩))
              go_round
              case rel => exact ⟨k + 1, by omega, by go_num⟩
              case measure => simp [intOf]; omega
          | false =>
            rw [hIk, if_neg (by simp)] at yk
            have x1 : ((X[k].toNat : Int) == 49) = false := by rw [beq_eq_false_iff_ne]; omega
            have y1 : ((Y[k].toNat : Int) == 49) = false := by rw [beq_eq_false_iff_ne]; omega
            have x2 : ((X[k].toNat : Int) != 49) = true := by rw [bne_iff_ne]; omega
            have y2 : ((Y[k].toNat : Int) != 49) = true := by rw [bne_iff_ne]; omega
            clear qA qE hHk hIk xk yk
            cases a with
            | true =>
              cases b with
              | true =>
                go_wp2_with (first
                  | (go_at_call_of 23 (Value.int IntKind.u8 65); refine (HA _).mono ?_; rintro e w5 ⟨rfl, rfl⟩)
                  | (go_at_call 23; refine (HE _).mono ?_; rintro e w5 ⟨rfl, rfl⟩))
                go_round
                case rel => exact ⟨k + 1, by omega, by go_num⟩
                case measure => simp [intOf]; omega
              | false =>
                go_wp2_with (first
                  | (go_at_call_of 23 (Value.int IntKind.u8 65); refine (HA _).mono ?_; rintro e w5 ⟨rfl, rfl⟩)
                  | (go_at_call 23; refine (HE _).mono ?_; rintro e w5 ⟨rfl, rfl⟩))
                go_round
                case rel => exact ⟨k + 1, by omega, by go_num⟩
                case measure => simp [intOf]; omega
            | false =>
              cases b with
              | true =>
                go_wp2_with (first
                  | (go_at_call_of 23 (Value.int IntKind.u8 65); refine (HA _).mono ?_; rintro e w5 ⟨rfl, rfl⟩)
                  | (go_at_call 23; refine (HE _).mono ?_; rintro e w5 ⟨rfl, rfl⟩))
                go_round
                case rel => exact ⟨k + 1, by omega, by go_num⟩
                case measure => simp [intOf]; omega
              | false =>
                go_wp2_with (first
                  | (go_at_call_of 23 (Value.int IntKind.u8 65); refine (HA _).mono ?_; rintro e w5 ⟨rfl, rfl⟩)
                  | (go_at_call 23; refine (HE _).mono ?_; rintro e w5 ⟨rfl, rfl⟩))
                go_round
                case rel => exact ⟨k + 1, by omega, by go_num⟩
                case measure => simp [intOf]; omega
      · go_wp2_with fail
        go_ret
        exact ⟨rfl, hbel⟩
  · rw [sol_err h0] at HSO
    obtain ⟨E, hE⟩ : ∃ E, E = flt g f s := ⟨_, rfl⟩
    rw [← hE] at h0 HSO
    have hne : ((E : Int) != 0) = true := by rw [bne_iff_ne]; omega
    clear hE h0
    obtain ⟨p1, hp1⟩ : ∃ p1, p1 = pshAll s := ⟨_, rfl⟩
    obtain ⟨p2, hp2⟩ : ∃ p2, p2 = (frmAll s).1 := ⟨_, rfl⟩
    obtain ⟨t1, ht1⟩ : ∃ t1, t1 = (sol g ⟨#[]⟩ s).1 := ⟨_, rfl⟩
    obtain ⟨t2, ht2⟩ : ∃ t2, t2 = (sol g ⟨#[]⟩ s).2 := ⟨_, rfl⟩
    rw [← hp1, ← hp2] at HPU
    rw [← ht1, ← ht2] at HS0
    clear hp1 hp2 ht1 ht2
    go_enter Try.func8, Try.ntmps8
    go_wp2_with (first
      | (go_at_call 16; refine (HAW _).mono ?_; rintro e w1 ⟨rfl, hb1⟩)
      | (go_at_call 19; refine (HPU _).mono ?_; rintro e w2 ⟨rfl, hb2⟩)
      | (go_at_call_of 17 (Value.string f); refine (HSO _).mono ?_; rintro e w3 ⟨rfl, hb3⟩)
      | (go_at_call 17; refine (HS0 _).mono ?_; rintro e w4 ⟨rfl, hb4⟩))
    go_ret
    exact ⟨rfl, Below.to (Below.to (Below.to hb1 hb2) hb3) hb4⟩

end Go.Proofs.Ytcfbfdjmcabnkaa

namespace Go.Proofs.Ytcfbfdjmcabnkaa
open Go.ChangeShapes Go.WideShapes Go.ChangeAt Go.RowKit Go.Deep
open Go.ChangeMaps (open_string shut_string)
set_option linter.unusedVariables false

set_option maxRecDepth 100000 in
theorem fewer_lifted (os : Os) (started : os.Started) (H : Type) (enc : TypeId × Value → H) :
    ReturnsInHanded {} Try.checked os 8 .any (Rows.fewerSpec.pre6 enc Try.prog Try.f8 Rows.fewerRow.domain false) (Rows.fewerSpec.post enc Try.prog Try.f8 false true false false) := by
  refine returnsInHanded_of_change (C := Try.checked) own started (by kernel_rfl) Try.func8
    (ChangeSpec.witness6 (enc := enc) (C := Try.checked) false ⟨#[], #[.string ByteArray.empty, .string ByteArray.empty, .string ByteArray.empty], []⟩ 8 (by kernel_rfl) (by kernel_rfl) (by kernel_rfl) (by kernel_rfl)) ?_
  intro W base args ds gs before hval0 hW hcnd _
  have hval : ∀ (j : Nat) t v, Try.f8.params[j]? = some t → args[j]? = some v → Value.okWide Try.prog W .any base t v := hval0
  have hW' := hW
  obtain ⟨p, q, hA0, hV, rfl, hfz, hnd⟩ := hW
  have hA : DataW.TrodAll enc Try.prog W 0 (fun _ => true) true Try.f8.params.toList args.toList ds p := hA0
  rw [Try.params8] at hA hval
  obtain ⟨v0, vs0, d0, ds0, p0, q0, hargs0, rfl, rfl, h0, r0⟩ := trodAll_cons hA
  obtain ⟨v1, vs1, d1, ds1, p1, q1, hargs1, rfl, rfl, h1, r1⟩ := trodAll_cons r0
  obtain ⟨v2, vs2, d2, ds2, p2, q2, hargs2, rfl, rfl, h2, r2⟩ := trodAll_cons r1
  obtain ⟨rfl, rfl, rfl⟩ := trodAll_nil r2
  obtain rfl : args = #[v0, v1, v2] := by cases args; simp_all
  obtain ⟨rfl, rfl⟩ := trodVars_none hV
  obtain ⟨xa, rfl, rfl, rfl, w0⟩ := open_string Try.underlying9 (hval 0 9 v0 rfl rfl) h0
  obtain ⟨xb, rfl, rfl, rfl, w1⟩ := open_string Try.underlying9 (hval 1 9 v1 rfl rfl) h1
  obtain ⟨xc, rfl, rfl, rfl, w2⟩ := open_string Try.underlying9 (hval 2 9 v2 rfl rfl) h2
  clear hA0 hval0
  refine (fewer_walk xa xb xc W (by simpa [maxLen] using w1)).mono fun e W' ⟨he, bel⟩ => ?_
  subst he
  exact ⟨_, rfl, _, _, _, [], _, [], hW', trodAll_mk1 (shut_bool Try.underlying4 _), (trodAll_cons_mk (shut_string Try.underlying9 w0) (trodAll_cons_mk (shut_string Try.underlying9 w1) (trodAll_cons_mk (shut_string Try.underlying9 w2) trodAll_mk0))), rfl, bel.frame _, fun h => by cases h⟩

theorem fewer_holds : Rows.FewerSaid :=
  OpenClaim.holds_of_wide 8 Try.f8 rfl rfl rfl rfl rfl rfl rfl ⟨rfl, rfl, rfl, rfl, rfl⟩ rfl rfl rfl rfl rfl (by kernel_rfl) Try.func8 (by kernel_rfl)
    (of_decide_eq_true (by kernel_rfl)) (by unfold Func.isWrapper; first | (rw [if_pos (by decide +kernel)]; kernel_rfl) | (rw [if_neg (by decide +kernel)]; exact ⟨rfl, rfl⟩))
    (fun os started H enc _ => fewer_lifted os started H enc)
#print axioms fewer_holds
end Go.Proofs.Ytcfbfdjmcabnkaa

