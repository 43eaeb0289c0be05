import Derived.SizedLaws
import Derived.Test.YtcfbfdjmcabnkaaG16
import Derived.Test.YtcfbfdjmcabnkaaG3
namespace Go.Proofs.Ytcfbfdjmcabnkaa
open Go.RowKit Fw
open Go.Deep (BT)
set_option linter.unusedVariables false

theorem chk_lt (s : ByteArray) : (chk s).1 < 5 := by
  unfold chk
  split
  · split <;> simp
  · simp
theorem flt_form {g f s : ByteArray} (h : 5 ≤ flt g f s) : (frmAll s).1 = flt g f s := by
  unfold flt at h ⊢
  split at h
  · omega
  · rename_i h1
    split at h
    · have := chk_lt g; omega
    · rename_i h2
      split at h
      · omega
      · rename_i h3
        rw [if_neg h1, if_neg h2, if_neg h3, frmAll, if_pos (by omega)]

/-- a formula with a negation ahead -/
def nott (s : ByteArray) : ByteArray := ⟨#[33]⟩ ++ s
theorem nott_list (s : ByteArray) : (nott s).data.toList = 33 :: s.data.toList := by simp [nott]
theorem nott_size (s : ByteArray) : (nott s).size = s.size + 1 := by
  have := congrArg List.length (nott_list s)
  simp only [Array.length_toList, List.length_cons] at this
  exact this
theorem nott_good {t : Fm} (g : good t) : good (.node 33 0 () t .nil) ∧ txt (.node 33 0 () t .nil) = 33 :: txt t ∧ nst (.node 33 0 () t .nil) = nst t := by
  refine ⟨?_, ?_, ?_⟩
  · simp [good, g]
  · simp [txt]
  · simp [nst]

theorem sol_txt {g f s x : ByteArray} {t u : Fm} (h0 : flt g f s = 0) (gu : good u) (hx : x.data.toList = txt u) (hs : x.size ≤ 30) (hn : nst u ≤ 3) : sol g f x = (bs (bitsU (holdsB (gphOf g) (fsOf f) u) (gphOf g).n), 0) := by
  obtain ⟨hg, _, hck, hfo, _⟩ := flt_zero h0
  exact sol_of hg hck hfo gu hx hs hn

theorem tree_nst {s : ByteArray} (h : (frm s).1 = 0) : nst (treeOf s) ≤ 3 := by
  have h1 := frm_zero h
  have := (frm_txt h1.2 h1.1).1
  rw [this] at h
  split at h
  · simp at h
  · omega

theorem dual_facts {g f s : ByteArray} (h0 : flt g f s = 0) :
    ((pshAll s).size ≤ 30 → sol g f (pshAll s) = (bs (bitsU (holdsB (gphOf g) (fsOf f) (treeOf s)) (gphOf g).n), 0)) ∧
    (s.size < 30 → (frmAll (nott s)).1 = 0) ∧
    ((nott s).size ≤ 30 → sol g f (nott s) = (bs (bitsU (fun j => !(holdsB (gphOf g) (fsOf f) (treeOf s) j)) (gphOf g).n), 0)) ∧
    ((frmAll (nott s)).1 = 0 → (pshAll (nott s)).size ≤ 30 → sol g f (pshAll (nott s)) = (bs (bitsU (fun j => !(holdsB (gphOf g) (fsOf f) (treeOf s) j)) (gphOf g).n), 0)) := by
  obtain ⟨hg, hs, hck, hfo, hfr⟩ := flt_zero h0
  obtain ⟨htx, hgt⟩ := frm_zero hfr
  have hok := gph_ok hck
  have hnst := tree_nst hfr
  obtain ⟨gn, tn1, nn⟩ := nott_good hgt
  have hnx : (nott s).data.toList = txt (.node 33 0 () (treeOf s) .nil) := by rw [nott_list, tn1, htx]
  refine ⟨fun hz => ?_, fun hz => ?_, fun hz => ?_, fun hz1 hz2 => ?_⟩
  · obtain ⟨hp, _⟩ := psh_zero hs hfr
    obtain ⟨q1, q2, q3⟩ := pushT_is (treeOf s) hgt false
    rw [sol_txt (t := treeOf s) h0 q2 (by rw [hp, bs_list, q1]) hz (by omega)]
    rw [bits_congr (holdsB_same hok q2 hgt fun i _ => (pushT_sat (treeOf s) hgt i).1)]
  · have := (frm_txt gn hnx).1
    rw [frmAll, if_pos (by rw [nott_size]; omega), this, if_neg (by omega)]
  · rw [sol_txt (t := treeOf s) h0 gn hnx hz (by omega)]
    rw [bits_congr fun i hi => (show holdsB (gphOf g) (fsOf f) (.node 33 0 () (treeOf s) .nil) i = !(holdsB (gphOf g) (fsOf f) (treeOf s) i) from by rw [holdsB, if_pos rfl])]
  · have hns : (nott s).size ≤ 30 := by
      by_cases h : (nott s).size ≤ 30
      · exact h
      · rw [frmAll, if_neg h] at hz1
        cases hz1
    have hfn : (frm (nott s)).1 = 0 := by rw [frmAll, if_pos hns] at hz1; exact hz1
    obtain ⟨hp, _⟩ := psh_zero hns hfn
    have htr : treeOf (nott s) = .node 33 0 () (treeOf s) .nil := (frm_txt gn hnx).2
    obtain ⟨q1, q2, q3⟩ := pushT_is (treeOf s) hgt true
    have hpp : push (.node 33 0 () (treeOf s) .nil) false = push (treeOf s) true := by
      rw [← (pushT_is _ gn false).1, pushT_not, ← q1]
      rfl
    rw [sol_txt (t := treeOf s) h0 q2 (by rw [hp, bs_list, htr, hpp, q1]) hz2 (by omega)]
    rw [bits_congr fun i hi => (show holdsB (gphOf g) (fsOf f) (pushT (treeOf s) true) i = !(holdsB (gphOf g) (fsOf f) (treeOf s) i) from by
      rw [Bool.eq_iff_iff, holdsB_iff hok _ q2 i hi, Bool.not_eq_true', ← Bool.not_eq_true, holdsB_iff hok _ hgt i hi]
      exact (pushT_sat (treeOf s) hgt i).2)]

set_option maxRecDepth 100000 in
set_option maxHeartbeats 2000000 in
theorem dual_walk (g f s : ByteArray) (w : World) (hf : f.size ≤ 9223372036854775807) (hs1 : s.size + 1 ≤ 9223372036854775807) :
    Calls Try.prog 6 #[.string g, .string f, .string s] w fun e w' => e = .returned (.bool true) ∧ Below w.heap.size w w' := by
  have HAW := fun W => awake_yes W
  have HPU := fun W => push_all s W
  have HPF := fun W => push_all (nott s) W
  have HSO := fun W => solve_all g f s W hf
  have hadd : ∀ W : World, (Op.stringOp .add ⟨#[33]⟩ s).run Try.prog W = .ok (.string (nott s)) W := fun W => run_string_add_sum (P := Try.prog) (w := W) _ _ (by
    show (1 : Nat) + s.size ≤ _
    omega)
  by_cases h0 : flt g f s = 0
  · obtain ⟨d1, d2, d3, d4⟩ := dual_facts h0
    obtain ⟨hg, hs, hck, hfo, hfr⟩ := flt_zero h0
    have hp0 : (frmAll s).1 = 0 := (psh_zero hs hfr).2
    have hn6 : (gphOf g).n ≤ 6 := (run_starts g 6 0 (by omega)).1
    rw [sol_zero h0] at HSO
    rw [hp0] at HPU
    obtain ⟨n, hn⟩ : ∃ n, n = (gphOf g).n := ⟨_, rfl⟩
    obtain ⟨H, hH⟩ : ∃ H, H = holdsB (gphOf g) (fsOf f) (treeOf s) := ⟨_, rfl⟩
    rw [← hn, ← hH] at HSO d1
    simp only [← hn, ← hH] at d3 d4
    rw [← hn] at hn6
    have HFL := fun W => flipped_is H n hn6 W
    obtain ⟨X, hX⟩ : ∃ X, X = bs (bitsU H n) := ⟨_, rfl⟩
    obtain ⟨Y, hY⟩ : ∃ Y, Y = bs (bitsU (fun j => !(H j)) n) := ⟨_, rfl⟩
    obtain ⟨p, hp⟩ : ∃ p, p = pshAll s := ⟨_, rfl⟩
    obtain ⟨q, hq⟩ : ∃ q, q = pshAll (nott s) := ⟨_, rfl⟩
    obtain ⟨E, hE⟩ : ∃ E, E = (frmAll (nott s)).1 := ⟨_, rfl⟩
    rw [← hX] at HSO HFL d1
    rw [← hY] at HFL d3 d4
    rw [← hp] at HPU d1
    rw [← hq] at HPF d4
    rw [← hE] at HPF d2 d4
    have HAG1 := fun W => agrees_yes g f (nott s) Y W hf d3
    have HAG2 := fun W => agrees_yes g f p X W hf d1
    have hlen : (s.size : Int) < 30 ∨ ¬ (s.size : Int) < 30 := by omega
    by_cases hE0 : E = 0
    · have HAG3 := fun W => agrees_yes g f q Y W hf (d4 hE0)
      subst hE0
      obtain ⟨N, hN⟩ : ∃ N, N = nott s := ⟨_, rfl⟩
      rw [← hN] at HPF HAG1
      simp only [← hN] at hadd
      clear hN hE hq hp hX hY hH hn d1 d2 d3 d4 hp0 hfr hfo hck hs hg h0
      go_enter Try.func6, Try.ntmps6
      go_wp2_with (first
      | (go_at_call 16; refine (HAW _).mono ?_; rintro e w1 ⟨rfl, hb1⟩)
      | (go_at_call 17; refine (HSO _).mono ?_; rintro e w2 ⟨rfl, hb2⟩)
      | (go_at_call_of 19 (Value.string s); refine (HPU _).mono ?_; rintro e w3 ⟨rfl, hb3⟩)
      | (go_at_call 19; refine (HPF _).mono ?_; rintro e w4 ⟨rfl, hb4⟩)
      | (go_at_call_of 20 (Value.string N); refine (HAG1 _).mono ?_; rintro e w5 ⟨rfl, hb5⟩)
      | (go_at_call_of 20 (Value.string p); refine (HAG2 _).mono ?_; rintro e w6 ⟨rfl, hb6⟩)
      | (go_at_call_of 20 (Value.string q); refine (HAG3 _).mono ?_; rintro e w7 ⟨rfl, hb7⟩)
      | (go_at_call 21; refine (HFL _).mono ?_; rintro e w8 ⟨rfl, rfl⟩))
      go_ret
      exact ⟨rfl, Below.to (Below.to (Below.to (Below.to (Below.to (Below.to hb1 hb2) hb3) hb4) hb5) hb6) hb7⟩
    · have hl30 : ¬ (s.size : Int) < 30 := by
        intro h
        exact hE0 (d2 (by omega))
      have hne : ((E : Int) != 0) = true := by rw [bne_iff_ne]; omega
      obtain ⟨N, hN⟩ : ∃ N, N = nott s := ⟨_, rfl⟩
      rw [← hN] at HPF HAG1
      simp only [← hN] at hadd
      clear hN hE hq hp hX hY hH hn d1 d2 d3 d4 hp0 hfr hfo hck hs hg h0 hlen
      go_enter Try.func6, Try.ntmps6
      go_wp2_with (first
      | (go_at_call 16; refine (HAW _).mono ?_; rintro e w1 ⟨rfl, hb1⟩)
      | (go_at_call 17; refine (HSO _).mono ?_; rintro e w2 ⟨rfl, hb2⟩)
      | (go_at_call_of 19 (Value.string s); refine (HPU _).mono ?_; rintro e w3 ⟨rfl, hb3⟩)
      | (go_at_call 19; refine (HPF _).mono ?_; rintro e w4 ⟨rfl, hb4⟩)
      | (go_at_call_of 20 (Value.string N); refine (HAG1 _).mono ?_; rintro e w5 ⟨rfl, hb5⟩)
      | (go_at_call_of 20 (Value.string p); refine (HAG2 _).mono ?_; rintro e w6 ⟨rfl, hb6⟩)
      | (go_at_call 21; refine (HFL _).mono ?_; rintro e w8 ⟨rfl, rfl⟩))
      go_ret
      exact ⟨rfl, Below.to (Below.to (Below.to (Below.to (Below.to hb1 hb2) hb3) hb4) hb5) hb6⟩
  · rw [sol_err h0] at HSO
    have hfm : 5 ≤ flt g f s → (frmAll s).1 = flt g f s := flt_form
    obtain ⟨E, hE⟩ : ∃ E, E = flt g f s := ⟨_, rfl⟩
    rw [← hE] at h0 HSO hfm
    have hne : ((E : Int) != 0) = true := by rw [bne_iff_ne]; omega
    clear hE h0
    obtain ⟨p1, hp1⟩ : ∃ p1, p1 = pshAll s := ⟨_, rfl⟩
    obtain ⟨p2, hp2⟩ : ∃ p2, p2 = (frmAll s).1 := ⟨_, rfl⟩
    obtain ⟨q1, hq1⟩ : ∃ q1, q1 = pshAll (nott s) := ⟨_, rfl⟩
    obtain ⟨q2, hq2⟩ : ∃ q2, q2 = (frmAll (nott s)).1 := ⟨_, rfl⟩
    rw [← hp1, ← hp2] at HPU
    rw [← hp2] at hfm
    rw [← hq1, ← hq2] at HPF
    obtain ⟨N, hN⟩ : ∃ N, N = nott s := ⟨_, rfl⟩
    rw [← hN] at HPF
    simp only [← hN] at hadd
    clear hp1 hp2 hq1 hq2 hN
    by_cases h5 : 5 ≤ E
    · have he := hfm h5
      subst he
      have heq : ((p2 : Int) == (p2 : Int)) = true := by simp
      clear hfm
      go_enter Try.func6, Try.ntmps6
      go_wp2_with (first
      | (go_at_call 16; refine (HAW _).mono ?_; rintro e w1 ⟨rfl, hb1⟩)
      | (go_at_call 17; refine (HSO _).mono ?_; rintro e w2 ⟨rfl, hb2⟩)
      | (go_at_call_of 19 (Value.string s); refine (HPU _).mono ?_; rintro e w3 ⟨rfl, hb3⟩)
      | (go_at_call 19; refine (HPF _).mono ?_; rintro e w4 ⟨rfl, hb4⟩)
      | fail)
      go_ret
      exact ⟨by simp, Below.to (Below.to (Below.to hb1 hb2) hb3) hb4⟩
    · have hlt : (E : Int) < 5 := by omega
      clear hfm
      cases he : ((E : Int) == (p2 : Int)) with
      | true =>
        go_enter Try.func6, Try.ntmps6
        go_wp2_with (first
      | (go_at_call 16; refine (HAW _).mono ?_; rintro e w1 ⟨rfl, hb1⟩)
      | (go_at_call 17; refine (HSO _).mono ?_; rintro e w2 ⟨rfl, hb2⟩)
      | (go_at_call_of 19 (Value.string s); refine (HPU _).mono ?_; rintro e w3 ⟨rfl, hb3⟩)
      | (go_at_call 19; refine (HPF _).mono ?_; rintro e w4 ⟨rfl, hb4⟩)
        | fail)
        go_ret
        exact ⟨by simp, Below.to (Below.to (Below.to hb1 hb2) hb3) hb4⟩
      | false =>
        go_enter Try.func6, Try.ntmps6
        go_wp2_with (first
      | (go_at_call 16; refine (HAW _).mono ?_; rintro e w1 ⟨rfl, hb1⟩)
      | (go_at_call 17; refine (HSO _).mono ?_; rintro e w2 ⟨rfl, hb2⟩)
      | (go_at_call_of 19 (Value.string s); refine (HPU _).mono ?_; rintro e w3 ⟨rfl, hb3⟩)
      | (go_at_call 19; refine (HPF _).mono ?_; rintro e w4 ⟨rfl, hb4⟩)
        | fail)
        go_ret
        exact ⟨by simp, Below.to (Below.to (Below.to hb1 hb2) hb3) hb4⟩

end Go.Proofs.Ytcfbfdjmcabnkaa

namespace Go.Proofs.Ytcfbfdjmcabnkaa
open Go.ChangeShapes Go.WideShapes Go.ChangeAt Go.RowKit Go.Deep
open Go.ChangeMaps (open_string shut_string)
set_option linter.unusedVariables false

set_option maxRecDepth 100000 in
theorem dual_lifted (os : Os) (started : os.Started) (H : Type) (enc : TypeId × Value → H) :
    ReturnsInHanded {} Try.checked os 6 .any (Rows.dualSpec.pre6 enc Try.prog Try.f6 Rows.dualRow.domain false) (Rows.dualSpec.post enc Try.prog Try.f6 false true false false) := by
  refine returnsInHanded_of_change_sized (C := Try.checked) own started (by kernel_rfl) Try.func6
    (ChangeSpec.witness6 (enc := enc) (C := Try.checked) false ⟨#[], #[.string ByteArray.empty, .string ByteArray.empty, .string ByteArray.empty], []⟩ 8 (by kernel_rfl) (by kernel_rfl) (by kernel_rfl) (by kernel_rfl)) ?_
  intro W base args ds gs before hval0 hW hcnd hsz _
  have hval : ∀ (j : Nat) t v, Try.f6.params[j]? = some t → args[j]? = some v → Value.okWide Try.prog W .any base t v := hval0
  have hW' := hW
  obtain ⟨p, q, hA0, hV, rfl, hfz, hnd⟩ := hW
  have hA : DataW.TrodAll enc Try.prog W 0 (fun _ => true) true Try.f6.params.toList args.toList ds p := hA0
  rw [Try.params6] at hA hval hsz
  obtain ⟨v0, vs0, d0, ds0, p0, q0, hargs0, rfl, rfl, h0, r0⟩ := trodAll_cons hA
  obtain ⟨v1, vs1, d1, ds1, p1, q1, hargs1, rfl, rfl, h1, r1⟩ := trodAll_cons r0
  obtain ⟨v2, vs2, d2, ds2, p2, q2, hargs2, rfl, rfl, h2, r2⟩ := trodAll_cons r1
  obtain ⟨rfl, rfl, rfl⟩ := trodAll_nil r2
  obtain rfl : args = #[v0, v1, v2] := by cases args; simp_all
  obtain ⟨rfl, rfl⟩ := trodVars_none hV
  obtain ⟨xa, rfl, rfl, rfl, w0⟩ := open_string Try.underlying9 (hval 0 9 v0 rfl rfl) h0
  obtain ⟨xb, rfl, rfl, rfl, w1⟩ := open_string Try.underlying9 (hval 1 9 v1 rfl rfl) h1
  obtain ⟨xc, rfl, rfl, rfl, w2⟩ := open_string Try.underlying9 (hval 2 9 v2 rfl rfl) h2
  have z0 : xa.size ≤ 140737488351232 := by
    have := sized_string hsz (j := 0) (t := 9) rfl rfl
    rw [Array.length_toList] at this
    exact Nat.le_trans this (by decide)
  have z1 : xb.size ≤ 140737488351232 := by
    have := sized_string hsz (j := 1) (t := 9) rfl rfl
    rw [Array.length_toList] at this
    exact Nat.le_trans this (by decide)
  have z2 : xc.size ≤ 140737488351232 := by
    have := sized_string hsz (j := 2) (t := 9) rfl rfl
    rw [Array.length_toList] at this
    exact Nat.le_trans this (by decide)
  clear hA0 hval0
  refine (dual_walk xa xb xc W (by omega) (by omega)).mono fun e W' ⟨he, bel⟩ => ?_
  subst he
  exact ⟨_, rfl, _, _, _, [], _, [], hW', trodAll_mk1 (shut_bool Try.underlying4 _), (trodAll_cons_mk (shut_string Try.underlying9 w0) (trodAll_cons_mk (shut_string Try.underlying9 w1) (trodAll_cons_mk (shut_string Try.underlying9 w2) trodAll_mk0))), rfl, bel.frame _, fun h => by cases h⟩

theorem dual_holds : Rows.DualSaid :=
  OpenClaim.holds_of_wide 6 Try.f6 rfl rfl rfl rfl rfl rfl rfl ⟨rfl, rfl, rfl, rfl, rfl⟩ rfl rfl rfl rfl rfl (by kernel_rfl) Try.func6 (by kernel_rfl)
    (of_decide_eq_true (by kernel_rfl)) (by unfold Func.isWrapper; first | (rw [if_pos (by decide +kernel)]; kernel_rfl) | (rw [if_neg (by decide +kernel)]; exact ⟨rfl, rfl⟩))
    (fun os started H enc _ => dual_lifted os started H enc)
#print axioms dual_holds
end Go.Proofs.Ytcfbfdjmcabnkaa

