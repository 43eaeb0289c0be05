import Derived.Test.YtcfbfdjmcabnkaaGR3
import Derived.Test.YtcfbfdjmcabnkaaGR1
namespace Go.Proofs.Ytcfbfdjmcabnkaa
open Go.RowKit Fw
open Go.Deep (BT)
set_option linter.unusedVariables false

def digA (n : Nat) (s : ByteArray) (p : Nat) : List Nat := dig n 40 (tl s (p + 1))
def digB (n : Nat) (s : ByteArray) (p : Nat) : List Nat := dig n (40 - (digA n s p).length) (tl s (p + 1 + (digA n s p).length + 1))
theorem las_eq (n : Nat) (s : ByteArray) (p : Nat) : las n s p =
    if isAt s p 91 = true ∧ isAt s (p + 1 + (digA n s p).length) 40 = true ∧ isAt s (p + 1 + (digA n s p).length + 1 + (digB n s p).length) 41 = true ∧ isAt s (p + 1 + (digA n s p).length + 1 + (digB n s p).length + 1) 93 = true ∧ digB n s p ≠ [] then
      some (digA n s p ++ digB n s p, (digA n s p).length, p + 1 + (digA n s p).length + 1 + (digB n s p).length + 2) else none := rfl
theorem las_no1 {n : Nat} {s : ByteArray} {p : Nat} (h : isAt s p 91 = false) : las n s p = none := by
  rw [las_eq, if_neg]; rintro ⟨h1, _⟩; rw [h] at h1; cases h1
theorem las_no2 {n : Nat} {s : ByteArray} {p : Nat} (h : isAt s (p + 1 + (digA n s p).length) 40 = false) : las n s p = none := by
  rw [las_eq, if_neg]; rintro ⟨_, h1, _⟩; rw [h] at h1; cases h1
theorem las_no3 {n : Nat} {s : ByteArray} {p : Nat} (h : isAt s (p + 1 + (digA n s p).length + 1 + (digB n s p).length) 41 = false) : las n s p = none := by
  rw [las_eq, if_neg]; rintro ⟨_, _, h1, _⟩; rw [h] at h1; cases h1
theorem las_no4 {n : Nat} {s : ByteArray} {p : Nat} (h : isAt s (p + 1 + (digA n s p).length + 1 + (digB n s p).length + 1) 93 = false) : las n s p = none := by
  rw [las_eq, if_neg]; rintro ⟨_, _, _, h1, _⟩; rw [h] at h1; cases h1
theorem las_no5 {n : Nat} {s : ByteArray} {p : Nat} (h : digB n s p = []) : las n s p = none := by
  rw [las_eq, if_neg]; rintro ⟨_, _, _, _, h1⟩; exact h1 h
theorem las_yes {n : Nat} {s : ByteArray} {p : Nat} (h1 : isAt s p 91 = true) (h2 : isAt s (p + 1 + (digA n s p).length) 40 = true) (h3 : isAt s (p + 1 + (digA n s p).length + 1 + (digB n s p).length) 41 = true) (h4 : isAt s (p + 1 + (digA n s p).length + 1 + (digB n s p).length + 1) 93 = true) (h5 : digB n s p ≠ []) :
    las n s p = some (digA n s p ++ digB n s p, (digA n s p).length, p + 1 + (digA n s p).length + 1 + (digB n s p).length + 2) := by
  rw [las_eq, if_pos ⟨h1, h2, h3, h4, h5⟩]
theorem lasG_none {G : Gph} {fs : List Nat} {s : ByteArray} {i p : Nat} (h : las G.n s p = none) : lasG G fs s i p = none := by unfold lasG; rw [h]
theorem lasG_no {G : Gph} {fs : List Nat} {s : ByteArray} {i p : Nat} {x : List Nat × Nat × Nat} (h : las G.n s p = some x) (hn : ¬ (x.1.getD 0 0 = i ∧ goesL G fs x.1 x.2.1 = true)) : lasG G fs s i p = none := by unfold lasG; rw [h]; exact if_neg hn
theorem lasG_yes {G : Gph} {fs : List Nat} {s : ByteArray} {i p : Nat} {x : List Nat × Nat × Nat} (h : las G.n s p = some x) (hn : x.1.getD 0 0 = i ∧ goesL G fs x.1 x.2.1 = true) : lasG G fs s i p = some x := by unfold lasG; rw [h]; exact if_pos hn

/-- what reading a lasso leaves -/
def LaOut (st p : Nat) (G : Gph) (fs : List Nat) (s : ByteArray) (b g cap : Nat) (K : Nat → ByteArray) (f : ByteArray) (B : Nat → Bool) (ns : List Nd) (w : World) (e : Ending) (w' : World) : Prop :=
  ∃ (C : List Value) (q : Nat), C.length = 42 ∧ C.toArray.all (·.oneCell') = true ∧ Cr w' b g cap G K f B ns s q ∧ q ≤ s.size ∧ Kq b w w' ∧
    ((lasG G fs s st p = none ∧ e = .returned (.tuple #[.agg C.toArray, .bool false])) ∨ ∃ x, lasG G fs s st p = some x ∧ C = lasC x.1 x.1.length x.2.1 ∧ q = x.2.2 ∧ e = .returned (.tuple #[.agg C.toArray, .bool true]))

theorem resultLas (tmps : Array Value) (w : World) (b : Nat) (cs : List Value) (v : Value) (hp : tmps.getD 4 undef = .pointer (some ⟨b, 0, none⟩)) (hq : tmps.getD 5 undef = v) (hc : w.rangeAt b 0 cs) (hl : cs.length = 42) :
    (results Try.f75 tmps).run Try.prog w = .ok (.tuple #[.agg cs.toArray, v]) w := by
  obtain ⟨d, hu, hd⟩ := Try.row116
  have hp' : tmps[4]?.getD undef = .pointer (some ⟨b, 0, none⟩) := by simpa using hp
  have hq' : tmps[5]?.getD undef = v := by simpa using hq
  simp [results, Try.results75, hp', hq', asAddr, run_loadVar_mid w b 0 116 cs d hc hu hd (by rw [hl]; exact Try.size116)]

theorem zero42 : (#[.int .i64 0, .int .i64 0, .int .i64 0, .int .i64 0, .int .i64 0, .int .i64 0, .int .i64 0, .int .i64 0, .int .i64 0, .int .i64 0, .int .i64 0, .int .i64 0, .int .i64 0, .int .i64 0, .int .i64 0, .int .i64 0, .int .i64 0, .int .i64 0, .int .i64 0, .int .i64 0, .int .i64 0, .int .i64 0, .int .i64 0, .int .i64 0, .int .i64 0, .int .i64 0, .int .i64 0, .int .i64 0, .int .i64 0, .int .i64 0, .int .i64 0, .int .i64 0, .int .i64 0, .int .i64 0, .int .i64 0, .int .i64 0, .int .i64 0, .int .i64 0, .int .i64 0, .int .i64 0, .int .i64 0, .int .i64 0] : Array Value) = (lasC [] 0 0).toArray := rfl

theorem ls_zero1 (w : World) : Ls (w.alloc (.cells (lasC [] 0 0).toArray 116)) w.heap.size [] 0 := ls_new w rfl (by simp) 116
theorem ls_zero2 (w : World) (o : Obj) : Ls ((w.alloc o).alloc (.cells (lasC [] 0 0).toArray 116)) (w.heap.size + 1) [] 0 := by
  have := ls_zero1 (w.alloc o)
  simpa using this

set_option maxRecDepth 100000 in
set_option maxHeartbeats 4000000 in
theorem lasso_is (b g cap st p : Nat) (G : Gph) (K : Nat → ByteArray) (f : ByteArray) (B : Nat → Bool) (ns : List Nd) (s : ByteArray) (w : World) (hs : s.size ≤ 4000000) (hp : p ≤ s.size) (hf : f.size ≤ 1000) (HR : Hid (Cr w b g cap G K f B ns s p)) :
    Calls Try.prog 75 #[.pointer (some ⟨b, 0, none⟩), .int .i64 (st : Int)] w fun e w' => LaOut st p G (fsOf f) s b g cap K f B ns w e w' := by
  have hbl := HR.out.wy.lt
  have hgl := HR.out.nr.lt
  have e1 : w.heap.size ≠ b := by omega
  have e2 : w.heap.size + 1 ≠ b := by omega
  have e3 : w.heap.size ≠ g := by omega
  have e4 : w.heap.size + 1 ≠ g := by omega
  have e5 : w.heap.size ≠ w.heap.size + 1 := by omega
  have HSK := fun (c q : Nat) W (hq : q ≤ s.size) (hc : c < 256) (h : Hid (Cr W b g cap G K f B ns s q)) => cskip_any b g cap c q G K f B ns s W hs hq hc h
  go_enter Try.func75, Try.ntmps75
  go_wp2_with fail
  rw [show (#[Value.int IntKind.i64 0, Value.int IntKind.i64 0, Value.int IntKind.i64 0, Value.int IntKind.i64 0, Value.int IntKind.i64 0, Value.int IntKind.i64 0, Value.int IntKind.i64 0, Value.int IntKind.i64 0, Value.int IntKind.i64 0, Value.int IntKind.i64 0, Value.int IntKind.i64 0, Value.int IntKind.i64 0, Value.int IntKind.i64 0, Value.int IntKind.i64 0, Value.int IntKind.i64 0, Value.int IntKind.i64 0, Value.int IntKind.i64 0, Value.int IntKind.i64 0, Value.int IntKind.i64 0, Value.int IntKind.i64 0, Value.int IntKind.i64 0, Value.int IntKind.i64 0, Value.int IntKind.i64 0, Value.int IntKind.i64 0, Value.int IntKind.i64 0, Value.int IntKind.i64 0, Value.int IntKind.i64 0, Value.int IntKind.i64 0, Value.int IntKind.i64 0, Value.int IntKind.i64 0, Value.int IntKind.i64 0, Value.int IntKind.i64 0, Value.int IntKind.i64 0, Value.int IntKind.i64 0, Value.int IntKind.i64 0, Value.int IntKind.i64 0, Value.int IntKind.i64 0, Value.int IntKind.i64 0, Value.int IntKind.i64 0, Value.int IntKind.i64 0, Value.int IntKind.i64 0, Value.int IntKind.i64 0] : Array Value) = (lasC [] 0 0).toArray from zero42]
  generalize hW : (w.alloc (Obj.cells (lasC [] 0 0).toArray 116)).alloc (Obj.cells (lasC [] 0 0).toArray 116) = w0
  have HC0 : Hid (Cr w0 b g cap G K f B ns s p) := by show Cr _ _ _ _ _ _ _ _ _ _ _; rw [← hW]; exact (HR.out.alloc _).alloc _
  have HL0 : Hid (Ls w0 (w.heap.size + 1) [] 0) := by show Ls _ _ _ _; rw [← hW]; exact ls_zero2 w _
  have HB0 : Hid (Ls w0 w.heap.size [] 0) := by show Ls _ _ _ _; rw [← hW]; exact (ls_zero1 w).alloc _
  have HK0 : Hid (Kq b w w0) := by show Kq _ _ _; rw [← hW]; exact ((Kq.refl _ _).alloc _).alloc _
  clear hW
  refine (HSK 91 p _ hp (by omega) HC0).mono ?_
  rintro e w1 ⟨⟨hA1, rfl, hcr⟩ | ⟨hA1, rfl, hcr⟩, hkq⟩
  case inr =>
    have HC1 : Hid (Cr w1 b g cap G K f B ns s p) := hcr
    have HL1 : Hid (Ls w1 (w.heap.size + 1) [] 0) := HL0.out.kq hkq e2
    have HB1 : Hid (Ls w1 w.heap.size [] 0) := HB0.out.kq hkq e1
    have HK1 : Hid (Kq b w w1) := HK0.out.trans hkq
    have HN : Hid (lasG G (fsOf f) s st p = none) := lasG_none (las_no1 hA1)
    clear hcr hkq hA1
    have hCl := lasC_len ([] : List Nat) ([] : List Nat).length (0)
    have hCo := lasC_one ([] : List Nat) ([] : List Nat).length (0)
    have hrg := HL1.out.range
    obtain ⟨C, hC⟩ : ∃ C, C = lasC ([] : List Nat) ([] : List Nat).length (0) := ⟨_, rfl⟩
    rw [← hC] at hCl hCo hrg
    have HRG : Hid (w1.rangeAt (w.heap.size + 1) 0 C) := hrg
    have HCO : Hid (C.toArray.all (·.oneCell') = true) := hCo
    have hCs : C.toArray.size = 42 := by simp [hCl]
    clear hC hrg hCo
    go_wp2_with (first
      | (refine loadT 116 42 Try.size116 Try.row116 (by rfl) _ (by rfl) (w.heap.size + 1) (by rfl) C HRG.out hCl ?_)
      | (refine storeT 116 42 Try.size116 (by rfl) _ _ (by rfl) w.heap.size C.toArray (by rfl) (by rfl) HB1.out.there hCs HCO.out ?_; intro w7 hb7 hz7 hk7 hr7))
    exact bodyPost_ret (resultLas _ _ w.heap.size C _ rfl rfl (by simpa using hr7) hCl) rfl ⟨C, p, hCl, HCO.out, HC1.out.same (by rw [hz7]; exact Nat.le_refl _) (hk7 _ (Ne.symm e1)) (hk7 _ (Ne.symm e3)), hp, HK1.out.new hb7, .inl ⟨HN.out, rfl⟩⟩
  have hp1 : p + 1 ≤ s.size := isAt_lt hA1
  have HA1 : Hid (isAt s p 91 = true) := hA1
  have HC1 : Hid (Cr w1 b g cap G K f B ns s (p + 1)) := hcr
  have HL1 : Hid (Ls w1 (w.heap.size + 1) [] 0) := HL0.out.kq hkq e2
  have HB1 : Hid (Ls w1 w.heap.size [] 0) := HB0.out.kq hkq e1
  have HK1 : Hid (Kq b w w1) := HK0.out.trans hkq
  clear hcr hkq hA1 HC0 HL0 HB0 HK0
  go_wp2_with fail
  refine (listed_is b g cap (w.heap.size + 1) 0 (p + 1) [] G K f B ns s _ hs hp1 e2 e4 HC1 HL1).mono ?_
  rintro e w2 ⟨rfl, hcr, hls, hk2⟩
  have hAd : dig G.n (40 - ([] : List Nat).length) (tl s (p + 1)) = digA G.n s p := rfl
  rw [hAd] at hcr hls
  rw [List.nil_append] at hls
  obtain ⟨A, hAe⟩ : ∃ A, A = digA G.n s p := ⟨_, rfl⟩
  rw [← hAe] at hcr hls
  have hq2 : p + 1 + A.length ≤ s.size := by have := dig_le G.n 40 (tl s (p + 1)); rw [tl_length] at this; have h3 : A.length = (dig G.n 40 (tl s (p + 1))).length := by rw [hAe]; rfl
                                             omega
  have hA40 : A.length ≤ 40 := hls.le
  have HAE : Hid (A = digA G.n s p) := hAe
  have cn := hls.cn
  have z41 := hls.z 41 (by omega)
  have c41 := hls.cf
  have HC2 : Hid (Cr w2 b g cap G K f B ns s (p + 1 + A.length)) := hcr
  have HL2 : Hid (Ls w2 (w.heap.size + 1) A 0) := hls
  have HB2 : Hid (Ls w2 w.heap.size [] 0) := HB1.out.same hk2.size (hk2.keep _ HB1.out.lt e1 e5)
  have HK2 : Hid (Kq b w w2) := K2.kq HK1.out hk2 (by omega)
  clear hcr hls hk2 hAe hAd HC1 HL1 HB1 HK1
  go_wp2_with fail
  have HC3 : Hid (Cr (w2.setCell ⟨w.heap.size + 1, 41, none⟩ (.int .i64 (A.length : Int))) b g cap G K f B ns s (p + 1 + A.length)) := HC2.out.setOther _ e2 e4
  have HL3 : Hid (Ls (w2.setCell ⟨w.heap.size + 1, 41, none⟩ (.int .i64 (A.length : Int))) (w.heap.size + 1) A A.length) := HL2.out.loop _
  have HB3 : Hid (Ls (w2.setCell ⟨w.heap.size + 1, 41, none⟩ (.int .i64 (A.length : Int))) w.heap.size [] 0) := HB2.out.setOther _ e5
  have HK3 : Hid (Kq b w (w2.setCell ⟨w.heap.size + 1, 41, none⟩ (.int .i64 (A.length : Int)))) := HK2.out.setNew _ (by omega)
  generalize w2.setCell ⟨w.heap.size + 1, 41, none⟩ (.int .i64 (A.length : Int)) = w3 at HC3 HL3 HB3 HK3 ⊢
  clear HC2 HL2 HB2 HK2 cn z41 c41
  refine (HSK 40 (p + 1 + A.length) _ hq2 (by omega) HC3).mono ?_
  rintro e w4 ⟨⟨hA1, rfl, hcr⟩ | ⟨hA1, rfl, hcr⟩, hkq⟩
  case inr =>
    have HC4 : Hid (Cr w4 b g cap G K f B ns s (p + 1 + A.length)) := hcr
    have HL4 : Hid (Ls w4 (w.heap.size + 1) A A.length) := HL3.out.kq hkq e2
    have HB4 : Hid (Ls w4 w.heap.size [] 0) := HB3.out.kq hkq e1
    have HK4 : Hid (Kq b w w4) := HK3.out.trans hkq
    have HN : Hid (lasG G (fsOf f) s st p = none) := lasG_none (las_no2 (by rw [← HAE.out]; exact hA1))
    clear hcr hkq hA1
    have hCl := lasC_len (A) (A).length (A.length)
    have hCo := lasC_one (A) (A).length (A.length)
    have hrg := HL4.out.range
    obtain ⟨C, hC⟩ : ∃ C, C = lasC (A) (A).length (A.length) := ⟨_, rfl⟩
    rw [← hC] at hCl hCo hrg
    have HRG : Hid (w4.rangeAt (w.heap.size + 1) 0 C) := hrg
    have HCO : Hid (C.toArray.all (·.oneCell') = true) := hCo
    have hCs : C.toArray.size = 42 := by simp [hCl]
    clear hC hrg hCo
    go_wp2_with (first
      | (refine loadT 116 42 Try.size116 Try.row116 (by rfl) _ (by rfl) (w.heap.size + 1) (by rfl) C HRG.out hCl ?_)
      | (refine storeT 116 42 Try.size116 (by rfl) _ _ (by rfl) w.heap.size C.toArray (by rfl) (by rfl) HB4.out.there hCs HCO.out ?_; intro w7 hb7 hz7 hk7 hr7))
    exact bodyPost_ret (resultLas _ _ w.heap.size C _ rfl rfl (by simpa using hr7) hCl) rfl ⟨C, _, hCl, HCO.out, HC4.out.same (by rw [hz7]; exact Nat.le_refl _) (hk7 _ (Ne.symm e1)) (hk7 _ (Ne.symm e3)), hq2, HK4.out.new hb7, .inl ⟨HN.out, rfl⟩⟩
  have hq3 : p + 1 + A.length + 1 ≤ s.size := isAt_lt hA1
  have HA2 : Hid (isAt s (p + 1 + A.length) 40 = true) := hA1
  have HC4 : Hid (Cr w4 b g cap G K f B ns s (p + 1 + A.length + 1)) := hcr
  have HL4 : Hid (Ls w4 (w.heap.size + 1) A A.length) := HL3.out.kq hkq e2
  have HB4 : Hid (Ls w4 w.heap.size [] 0) := HB3.out.kq hkq e1
  have HK4 : Hid (Kq b w w4) := HK3.out.trans hkq
  clear hcr hkq hA1 HC3 HL3 HB3 HK3
  go_wp2_with fail
  refine (listed_is b g cap (w.heap.size + 1) A.length (p + 1 + A.length + 1) A G K f B ns s _ hs hq3 e2 e4 HC4 HL4).mono ?_
  rintro e w5 ⟨rfl, hcr, hls, hk2⟩
  obtain ⟨D, hDe⟩ : ∃ D, D = dig G.n (40 - A.length) (tl s (p + 1 + A.length + 1)) := ⟨_, rfl⟩
  rw [← hDe] at hcr hls
  have HDE : Hid (D = digB G.n s p) := by show _ = _; rw [hDe, HAE.out]; rfl
  have hq4 : p + 1 + A.length + 1 + D.length ≤ s.size := by have := dig_le G.n (40 - A.length) (tl s (p + 1 + A.length + 1)); rw [tl_length, ← hDe] at this; omega
  have HC5 : Hid (Cr w5 b g cap G K f B ns s (p + 1 + A.length + 1 + D.length)) := hcr
  have HL5 : Hid (Ls w5 (w.heap.size + 1) (A ++ D) A.length) := hls
  have HB5 : Hid (Ls w5 w.heap.size [] 0) := HB4.out.same hk2.size (hk2.keep _ HB4.out.lt e1 e5)
  have HK5 : Hid (Kq b w w5) := K2.kq HK4.out hk2 (by omega)
  clear hcr hls hk2 hDe HC4 HL4 HB4 HK4
  go_wp2_with fail
  refine (HSK 41 (p + 1 + A.length + 1 + D.length) _ hq4 (by omega) HC5).mono ?_
  rintro e w6 ⟨⟨hA1, rfl, hcr⟩ | ⟨hA1, rfl, hcr⟩, hkq⟩
  case inr =>
    have HC6 : Hid (Cr w6 b g cap G K f B ns s (p + 1 + A.length + 1 + D.length)) := hcr
    have HL6 : Hid (Ls w6 (w.heap.size + 1) (A ++ D) A.length) := HL5.out.kq hkq e2
    have HB6 : Hid (Ls w6 w.heap.size [] 0) := HB5.out.kq hkq e1
    have HK6 : Hid (Kq b w w6) := HK5.out.trans hkq
    have HN : Hid (lasG G (fsOf f) s st p = none) := lasG_none (las_no3 (by rw [← HAE.out, ← HDE.out]; exact hA1))
    clear hcr hkq hA1
    have hCl := lasC_len (A ++ D) (A ++ D).length (A.length)
    have hCo := lasC_one (A ++ D) (A ++ D).length (A.length)
    have hrg := HL6.out.range
    obtain ⟨C, hC⟩ : ∃ C, C = lasC (A ++ D) (A ++ D).length (A.length) := ⟨_, rfl⟩
    rw [← hC] at hCl hCo hrg
    have HRG : Hid (w6.rangeAt (w.heap.size + 1) 0 C) := hrg
    have HCO : Hid (C.toArray.all (·.oneCell') = true) := hCo
    have hCs : C.toArray.size = 42 := by simp [hCl]
    clear hC hrg hCo
    go_wp2_with (first
      | (refine loadT 116 42 Try.size116 Try.row116 (by rfl) _ (by rfl) (w.heap.size + 1) (by rfl) C HRG.out hCl ?_)
      | (refine storeT 116 42 Try.size116 (by rfl) _ _ (by rfl) w.heap.size C.toArray (by rfl) (by rfl) HB6.out.there hCs HCO.out ?_; intro w7 hb7 hz7 hk7 hr7))
    exact bodyPost_ret (resultLas _ _ w.heap.size C _ rfl rfl (by simpa using hr7) hCl) rfl ⟨C, _, hCl, HCO.out, HC6.out.same (by rw [hz7]; exact Nat.le_refl _) (hk7 _ (Ne.symm e1)) (hk7 _ (Ne.symm e3)), hq4, HK6.out.new hb7, .inl ⟨HN.out, rfl⟩⟩
  have hq5 : p + 1 + A.length + 1 + D.length + 1 ≤ s.size := isAt_lt hA1
  have HA3 : Hid (isAt s (p + 1 + A.length + 1 + D.length) 41 = true) := hA1
  have HC6 : Hid (Cr w6 b g cap G K f B ns s (p + 1 + A.length + 1 + D.length + 1)) := hcr
  have HL6 : Hid (Ls w6 (w.heap.size + 1) (A ++ D) A.length) := HL5.out.kq hkq e2
  have HB6 : Hid (Ls w6 w.heap.size [] 0) := HB5.out.kq hkq e1
  have HK6 : Hid (Kq b w w6) := HK5.out.trans hkq
  clear hcr hkq hA1 HC5 HL5 HB5 HK5
  go_wp2_with fail
  refine (HSK 93 (p + 1 + A.length + 1 + D.length + 1) _ hq5 (by omega) HC6).mono ?_
  rintro e w8 ⟨⟨hA1, rfl, hcr⟩ | ⟨hA1, rfl, hcr⟩, hkq⟩
  case inr =>
    have HC8 : Hid (Cr w8 b g cap G K f B ns s (p + 1 + A.length + 1 + D.length + 1)) := hcr
    have HL8 : Hid (Ls w8 (w.heap.size + 1) (A ++ D) A.length) := HL6.out.kq hkq e2
    have HB8 : Hid (Ls w8 w.heap.size [] 0) := HB6.out.kq hkq e1
    have HK8 : Hid (Kq b w w8) := HK6.out.trans hkq
    have HN : Hid (lasG G (fsOf f) s st p = none) := lasG_none (las_no4 (by rw [← HAE.out, ← HDE.out]; exact hA1))
    clear hcr hkq hA1
    have hCl := lasC_len (A ++ D) (A ++ D).length (A.length)
    have hCo := lasC_one (A ++ D) (A ++ D).length (A.length)
    have hrg := HL8.out.range
    obtain ⟨C, hC⟩ : ∃ C, C = lasC (A ++ D) (A ++ D).length (A.length) := ⟨_, rfl⟩
    rw [← hC] at hCl hCo hrg
    have HRG : Hid (w8.rangeAt (w.heap.size + 1) 0 C) := hrg
    have HCO : Hid (C.toArray.all (·.oneCell') = true) := hCo
    have hCs : C.toArray.size = 42 := by simp [hCl]
    clear hC hrg hCo
    go_wp2_with (first
      | (refine loadT 116 42 Try.size116 Try.row116 (by rfl) _ (by rfl) (w.heap.size + 1) (by rfl) C HRG.out hCl ?_)
      | (refine storeT 116 42 Try.size116 (by rfl) _ _ (by rfl) w.heap.size C.toArray (by rfl) (by rfl) HB8.out.there hCs HCO.out ?_; intro w7 hb7 hz7 hk7 hr7))
    exact bodyPost_ret (resultLas _ _ w.heap.size C _ rfl rfl (by simpa using hr7) hCl) rfl ⟨C, _, hCl, HCO.out, HC8.out.same (by rw [hz7]; exact Nat.le_refl _) (hk7 _ (Ne.symm e1)) (hk7 _ (Ne.symm e3)), hq5, HK8.out.new hb7, .inl ⟨HN.out, rfl⟩⟩
  have hq6 : p + 1 + A.length + 1 + D.length + 1 + 1 ≤ s.size := isAt_lt hA1
  have HA4 : Hid (isAt s (p + 1 + A.length + 1 + D.length + 1) 93 = true) := hA1
  have HC8 : Hid (Cr w8 b g cap G K f B ns s (p + 1 + A.length + 1 + D.length + 1 + 1)) := hcr
  have HL8 : Hid (Ls w8 (w.heap.size + 1) (A ++ D) A.length) := HL6.out.kq hkq e2
  have HB8 : Hid (Ls w8 w.heap.size [] 0) := HB6.out.kq hkq e1
  have HK8 : Hid (Kq b w w8) := HK6.out.trans hkq
  clear hcr hkq hA1 HC6 HL6 HB6 HK6
  have cn := HL8.out.cn
  have c41 := HL8.out.cf
  have c0 := HL8.out.c 0 (by omega)
  rw [List.length_append] at cn
  by_cases hD : D = []
  · have HN : Hid (lasG G (fsOf f) s st p = none) := lasG_none (las_no5 (by rw [← HDE.out]; exact hD))
    have hDl : D.length = 0 := by rw [hD]; rfl
    rw [hDl, Nat.add_zero] at cn
    clear hD hDl
    have hCl := lasC_len (A ++ D) (A ++ D).length (A.length)
    have hCo := lasC_one (A ++ D) (A ++ D).length (A.length)
    have hrg := HL8.out.range
    obtain ⟨C, hC⟩ : ∃ C, C = lasC (A ++ D) (A ++ D).length (A.length) := ⟨_, rfl⟩
    rw [← hC] at hCl hCo hrg
    have HRG : Hid (w8.rangeAt (w.heap.size + 1) 0 C) := hrg
    have HCO : Hid (C.toArray.all (·.oneCell') = true) := hCo
    have hCs : C.toArray.size = 42 := by simp [hCl]
    clear hC hrg hCo
    go_wp2_with (first
      | (refine loadT 116 42 Try.size116 Try.row116 (by rfl) _ (by rfl) (w.heap.size + 1) (by rfl) C HRG.out hCl ?_)
      | (refine storeT 116 42 Try.size116 (by rfl) _ _ (by rfl) w.heap.size C.toArray (by rfl) (by rfl) HB8.out.there hCs HCO.out ?_; intro w7 hb7 hz7 hk7 hr7))
    exact bodyPost_ret (resultLas _ _ w.heap.size C _ rfl rfl (by simpa using hr7) hCl) rfl ⟨C, _, hCl, HCO.out, HC8.out.same (by rw [hz7]; exact Nat.le_refl _) (hk7 _ (Ne.symm e1)) (hk7 _ (Ne.symm e3)), hq6, HK8.out.new hb7, .inl ⟨HN.out, rfl⟩⟩
  · have hDl : 0 < D.length := List.length_pos_iff.2 hD
    obtain ⟨kn, hkn⟩ : ∃ kn, kn = A.length + D.length := ⟨_, rfl⟩
    have hq : (((A.length : Nat) : Int) == (kn : Int)) = false := by rw [beq_eq_false_iff_ne]; omega
    rw [← hkn] at cn
    have HKN : Hid (kn = A.length + D.length) := hkn
    clear hkn
    have HLAS : Hid (las G.n s p = some (A ++ D, A.length, p + 1 + A.length + 1 + D.length + 2)) := by
      show _ = _
      rw [HAE.out, HDE.out]
      have h2 := HA2.out
      have h3 := HA3.out
      have h4 := HA4.out
      have h5 := hD
      rw [HDE.out] at h3 h4 h5
      rw [HAE.out] at h2 h3 h4
      exact las_yes HA1.out h2 h3 h4 h5
    obtain ⟨l0, hl0⟩ : ∃ l0, l0 = (A ++ D).getD 0 0 := ⟨_, rfl⟩
    have HL0E : Hid (l0 = (A ++ D).getD 0 0) := hl0
    rw [← hl0] at c0
    clear hl0 hD
    by_cases h0 : l0 = st
    · have hq2 : ((l0 : Int) != (st : Int)) = false := by rw [h0]; simp
      have HST : Hid ((A ++ D).getD 0 0 = st) := by show _ = _; rw [← HL0E.out]; exact h0
      clear h0
      have hls := las_some HLAS.out
      have HFW := fun C hC W (h : Hid (Wy W b 0 G K f B)) => fairway_is b 0 A.length (A ++ D) G K f B C hC W hls.2.1 hls.1 hls.2.2.1 hf h
      obtain ⟨X, hX⟩ : ∃ X, X = goesL G (fsOf f) (A ++ D) A.length := ⟨_, rfl⟩
      have HX : Hid (X = goesL G (fsOf f) (A ++ D) A.length) := hX
      rw [← hX] at HFW
      have hCl := lasC_len (A ++ D) (A ++ D).length (A.length)
      have hCo := lasC_one (A ++ D) (A ++ D).length (A.length)
      have HLR : Hid (∀ W : World, Ls W (w.heap.size + 1) (A ++ D) A.length → W.rangeAt (w.heap.size + 1) 0 (lasC (A ++ D) (A ++ D).length A.length)) := fun W h => h.range
      obtain ⟨C, hC⟩ : ∃ C, C = lasC (A ++ D) (A ++ D).length (A.length) := ⟨_, rfl⟩
      have HFC := HFW C hC
      rw [← hC] at hCl hCo HLR
      have HCE : Hid (C = lasC (A ++ D) (A ++ D).length (A.length)) := hC
      have HCO : Hid (C.toArray.all (·.oneCell') = true) := hCo
      have hCs : C.toArray.size = 42 := by simp [hCl]
      clear hC hCo HFW hX hls
      go_wp2_with fail
      refine wp_region_held_drew (S := fun w' => w'.rangeAt (w.heap.size + 1) 0 C) (by kernel_rfl) (HLR.out _ HL8.out.drew) (fun hHeld => ?_)
      refine wpAnyH_take (i := 0) rfl (by kernel_rfl) (by kernel_rfl) (by kernel_rfl) (fun _ _ _ h => h) (yld42 (w.heap.size + 1) C hCl (by rfl) _ (by rfl) (by rfl) (fun _ h => h)) hHeld ?_
      simp only [Act.put, List.setIfInBounds_toArray]
      refine wpAnyH_take (i := 4) rfl (by kernel_rfl) (by kernel_rfl) (by kernel_rfl) (fun _ _ _ h => h) (yld42 (w.heap.size + 1) C hCl (by rfl) _ (by rfl) (by rfl) (fun _ h => h)) hHeld ?_
      simp only [Act.put]
      refine wpAnyH_take (i := 1) (v := ?v1) rfl (by kernel_rfl) (by kernel_rfl) (by kernel_rfl) (fun _ _ _ h => h) (Or.inl ⟨by rfl, ?hy1⟩) hHeld ?rest1
      case hy1 =>
        intro W hW
        have hW1 := hW
        go_simp
        try with_reducible rfl
      simp only [Act.put]
      refine wpAnyH_take (i := 2) (v := ?v2) rfl (by kernel_rfl) (by kernel_rfl) (by kernel_rfl) (fun _ _ _ h => h) (Or.inl ⟨by rfl, ?hy2⟩) hHeld ?rest2
      case hy2 =>
        intro W hW
        have hW1 := hW
        go_simp
        try with_reducible rfl
      simp only [Act.put]
      refine wpAnyH_take (i := 3) (v := ?v3) rfl (by kernel_rfl) (by kernel_rfl) (by kernel_rfl) (fun _ _ _ h => h) (Or.inl ⟨by rfl, ?hy3⟩) hHeld ?rest3
      case hy3 =>
        intro W hW
        have hW1 := hW
        go_simp
        try with_reducible rfl
      simp only [Act.put]
      refine wpAnyH_ready (rs := [5]) (by kernel_rfl) (by simp) ?_
      refine AllReadyH.cons rfl (fun KK hKK => ?_) AllReadyH.nil
      go_simp
      refine (HFC _ (show Hid _ from HC8.out.drew.wy)).mono ?_
      rintro e w9 ⟨rfl, hb9⟩
      have HC9 : Hid (Cr w9 b g cap G K f B ns s (p + 1 + A.length + 1 + D.length + 1 + 1)) := HC8.out.drew.below hb9 HC8.out.wy.lt HC8.out.nr.lt
      have HL9 : Hid (Ls w9 (w.heap.size + 1) (A ++ D) A.length) := HL8.out.drew.below hb9 HL8.out.lt
      have HB9 : Hid (Ls w9 w.heap.size [] 0) := HB8.out.drew.below hb9 HB8.out.lt
      have HK9 : Hid (Kq b w w9) := HK8.out.drew.new (hb9.mono HK8.out.size)
      clear hHeld
      go_wp2_with fail
      refine hKK.out _ _ (HLR.out _ HL9.out) (fun hHeld => ?_)
      clear hKK KK
      refine wpAnyH_ready (rs := [6]) (by kernel_rfl) (by simp) ?_
      refine AllReadyH.cons rfl (fun KK hKK => ?_) AllReadyH.nil
      rw [if_pos (by rfl)]
      refine wp_store_mid 116 _ _ rfl w.heap.size 0 C.toArray rfl (by rfl) (by rw [hCs]; exact HB9.out.there) (by rw [hCs]; exact Try.size116) HCO.out ?_
      have hr6 : (w9.setCells w.heap.size 0 C.toArray.toList).rangeAt w.heap.size 0 C.toArray.toList := World.rangeAt_setCells_same _ _ _ _ (by simpa [hCl] using HB9.out.there)
      have hb6 : Below w.heap.size w9 (w9.setCells w.heap.size 0 C.toArray.toList) := below_setCellsT _ _ _ _
      have hk6 := block_setCellsT w.heap.size C.toArray.toList 0 w9
      have hz6 := size_setCellsT w.heap.size C.toArray.toList 0 w9
      generalize w9.setCells w.heap.size 0 C.toArray.toList = w10 at hr6 hb6 hk6 hz6 ⊢
      have HL10 : Hid (Ls w10 (w.heap.size + 1) (A ++ D) A.length) := HL9.out.same (by rw [hz6]; exact Nat.le_refl _) (hk6 _ (Ne.symm e5))
      refine hKK.out _ _ (HLR.out _ HL10.out) (fun hHeld => ?_)
      clear hKK KK
      refine wpAnyH_take (i := 7) (v := ?v4) rfl (by kernel_rfl) (by kernel_rfl) (by kernel_rfl) (fun _ _ _ h => h) (Or.inl ⟨by rfl, ?hy4⟩) hHeld ?rest4
      case hy4 =>
        intro W hW
        have hW1 := hW
        go_simp
        try with_reducible rfl
      simp only [Act.put]
      refine wpAnyH_done (by kernel_rfl) ?_ _
      go_wp2_with fail
      exact bodyPost_ret (resultLas _ _ w.heap.size C _ rfl rfl (by simpa using hr6) hCl) rfl ⟨C, _, hCl, HCO.out, HC9.out.same (by rw [hz6]; exact Nat.le_refl _) (hk6 _ (Ne.symm e1)) (hk6 _ (Ne.symm e3)), hq6, HK9.out.new hb6, by
        cases X with
        | true => exact .inr ⟨_, lasG_yes HLAS.out ⟨HST.out, HX.out.symm⟩, HCE.out, rfl, rfl⟩
        | false => exact .inl ⟨lasG_no HLAS.out (fun h => by have h2 := h.2; rw [← HX.out] at h2; cases h2), rfl⟩⟩
    · have HN : Hid (lasG G (fsOf f) s st p = none) := lasG_no HLAS.out (fun h => h0 (by rw [HL0E.out]; exact h.1))
      have hq2 : ((l0 : Int) != (st : Int)) = true := by rw [bne_iff_ne]; omega
      clear h0
      have hCl := lasC_len (A ++ D) (A ++ D).length (A.length)
      have hCo := lasC_one (A ++ D) (A ++ D).length (A.length)
      have hrg := HL8.out.range
      obtain ⟨C, hC⟩ : ∃ C, C = lasC (A ++ D) (A ++ D).length (A.length) := ⟨_, rfl⟩
      rw [← hC] at hCl hCo hrg
      have HRG : Hid (w8.rangeAt (w.heap.size + 1) 0 C) := hrg
      have HCO : Hid (C.toArray.all (·.oneCell') = true) := hCo
      have hCs : C.toArray.size = 42 := by simp [hCl]
      clear hC hrg hCo
      go_wp2_with (first
        | (refine loadT 116 42 Try.size116 Try.row116 (by rfl) _ (by rfl) (w.heap.size + 1) (by rfl) C HRG.out hCl ?_)
        | (refine storeT 116 42 Try.size116 (by rfl) _ _ (by rfl) w.heap.size C.toArray (by rfl) (by rfl) HB8.out.there hCs HCO.out ?_; intro w7 hb7 hz7 hk7 hr7))
      exact bodyPost_ret (resultLas _ _ w.heap.size C _ rfl rfl (by simpa using hr7) hCl) rfl ⟨C, _, hCl, HCO.out, HC8.out.same (by rw [hz7]; exact Nat.le_refl _) (hk7 _ (Ne.symm e1)) (hk7 _ (Ne.symm e3)), hq6, HK8.out.new hb7, .inl ⟨HN.out, rfl⟩⟩

end Go.Proofs.Ytcfbfdjmcabnkaa

namespace Go.Proofs.Ytcfbfdjmcabnkaa
open Go.RowKit Fw
open Go.Deep (BT)
set_option linter.unusedVariables false

/-- what passing a certificate leaves; x: what reading comes to -/
def PaOut (x : Option Nat) (b g cap : Nat) (G : Gph) (K : Nat → ByteArray) (f : ByteArray) (B : Nat → Bool) (ns : List Nd) (s : ByteArray) (w : World) (e : Ending) (w' : World) : Prop :=
  ∃ q : Nat, Cr w' b g cap G K f B ns s q ∧ q ≤ s.size ∧ Kq b w w' ∧ ((x = none ∧ e = .returned (.bool false)) ∨ (x = some q ∧ e = .returned (.bool true)))

/-- what pass is to do with a node -/
def PaAt (t : Fm) (i b g cap : Nat) (G : Gph) (K : Nat → ByteArray) (f : ByteArray) (B : Nat → Bool) (ns : List Nd) (s : ByteArray) : Prop := ∀ (W : World) (st p : Nat), Hid (Cr W b g cap G K f B ns s p) → st < G.n → p ≤ s.size →
  Calls Try.prog 42 #[.pointer (some ⟨b, 0, none⟩), .int .i64 (i : Int), .int .i64 (st : Int)] W fun e w' => PaOut (rep G (fsOf f) s t st p) b g cap G K f B ns s W e w'

section
variable (b g cap : Nat) (G : Gph) (K : Nat → ByteArray) (f : ByteArray) (B : Nat → Bool) (ns : List Nd) (s : ByteArray)

set_option maxRecDepth 100000 in
set_option maxHeartbeats 1000000 in
theorem both_P (l r : Fm) (wy li ri k st p : Nat) (u : Unit) (w : World) (hs : s.size ≤ 4000000) (hst : st < G.n) (hp : p ≤ s.size) (HL : Hid (PaAt l li b g cap G K f B ns s)) (HRR : Hid (PaAt r ri b g cap G K f B ns s)) (HR : Hid (Cr w b g cap G K f B ns s p)) :
    Calls Try.prog 57 #[.pointer (some ⟨b, 0, none⟩), .agg #[.int .u8 38, .int .u8 (wy : Int), .int .i64 (li : Int), .int .i64 (ri : Int), .int .i64 (k : Int)], .int .i64 (st : Int)] w fun e w' => PaOut (rep G (fsOf f) s (.node 38 wy u l r) st p) b g cap G K f B ns s w e w' := by
  have hbl := HR.out.wy.lt
  have hgl := HR.out.nr.lt
  have e1 : w.heap.size ≠ b := by omega
  obtain ⟨x, hxe⟩ : ∃ x, x = rep G (fsOf f) s (.node 38 wy u l r) st p := ⟨_, rfl⟩
  have HE : Hid (x = rep G (fsOf f) s (.node 38 wy u l r) st p) := hxe
  rw [← hxe]
  clear hxe
  go_enter Try.func57, Try.ntmps57
  go_wp2_with fail
  refine (cskip_any b g cap 38 p G K f B ns s _ hs hp (by omega) (HR.out.alloc _)).mono ?_
  rintro e w1 ⟨⟨hA, rfl, hcr⟩ | ⟨hA, rfl, hcr⟩, hkq⟩
  · have hp1 : p + 1 ≤ s.size := isAt_lt hA
    have HA : Hid (isAt s p 38 = true) := hA
    have c2 : w1.cell? ⟨w.heap.size, 2, none⟩ = some (.int .i64 (li : Int)) := by rw [hkq.cell (by simp) e1]; simp
    have c3 : w1.cell? ⟨w.heap.size, 3, none⟩ = some (.int .i64 (ri : Int)) := by rw [hkq.cell (by simp) e1]; simp
    have hlt : w.heap.size < w1.heap.size := by have := hkq.size; simp at this; omega
    have HC1 : Hid (Cr w1 b g cap G K f B ns s (p + 1)) := hcr
    have HK1 : Hid (Kq b w w1) := hkq.unbox
    clear hA hcr hkq
    go_wp2_with fail
    refine (HL.out _ st (p + 1) HC1 hst hp1).mono ?_
    rintro e w2 ⟨q, hcr, hq, hkq, ⟨hx, rfl⟩ | ⟨hx, rfl⟩⟩
    · have HX : Hid (rep G (fsOf f) s l st (p + 1) = none) := hx
      have HC2 : Hid (Cr w2 b g cap G K f B ns s q) := hcr
      have HK2 : Hid (Kq b w w2) := HK1.out.trans hkq
      clear hcr hkq hx
      go_wp2_with fail
      go_ret
      exact ⟨q, HC2.out, hq, HK2.out, .inl ⟨by rw [HE.out]; exact rep_and1 HA.out HX.out, rfl⟩⟩
    · have HX : Hid (rep G (fsOf f) s l st (p + 1) = some q) := hx
      have HC2 : Hid (Cr w2 b g cap G K f B ns s q) := hcr
      have HK2 : Hid (Kq b w w2) := HK1.out.trans hkq
      have d3 : w2.cell? ⟨w.heap.size, 3, none⟩ = some (.int .i64 (ri : Int)) := by rw [hkq.cell hlt e1]; exact c3
      clear hcr hkq hx
      go_wp2_with fail
      refine (HRR.out _ st q HC2 hst hq).mono ?_
      rintro e w3 ⟨q2, hcr, hq2, hkq, hx⟩
      have HX3 : Hid ((rep G (fsOf f) s r st q = none ∧ e = .returned (.bool false)) ∨ (rep G (fsOf f) s r st q = some q2 ∧ e = .returned (.bool true))) := hx
      have HC3 : Hid (Cr w3 b g cap G K f B ns s q2) := hcr
      have HK3 : Hid (Kq b w w3) := HK2.out.trans hkq
      clear hcr hkq hx
      obtain ⟨Y, rfl⟩ : ∃ Y, e = .returned (.bool Y) := by rcases HX3.out with ⟨_, h⟩ | ⟨_, h⟩ <;> exact ⟨_, h⟩
      go_wp2_with fail
      go_ret
      refine ⟨q2, HC3.out, hq2, HK3.out, ?_⟩
      rw [HE.out, rep_and2 HA.out HX.out]
      exact HX3.out
  · have HA : Hid (isAt s p 38 = false) := hA
    have HC1 : Hid (Cr w1 b g cap G K f B ns s p) := hcr
    have HK1 : Hid (Kq b w w1) := hkq.unbox
    clear hA hcr hkq
    go_wp2_with fail
    go_ret
    exact ⟨p, HC1.out, hp, HK1.out, .inl ⟨by rw [HE.out]; exact rep_and0 HA.out, rfl⟩⟩

set_option maxRecDepth 100000 in
set_option maxHeartbeats 1000000 in
theorem one_P (l r : Fm) (wy li ri k st p : Nat) (u : Unit) (w : World) (hs : s.size ≤ 4000000) (hst : st < G.n) (hp : p ≤ s.size) (HL : Hid (PaAt l li b g cap G K f B ns s)) (HRR : Hid (PaAt r ri b g cap G K f B ns s)) (HR : Hid (Cr w b g cap G K f B ns s p)) :
    Calls Try.prog 58 #[.pointer (some ⟨b, 0, none⟩), .agg #[.int .u8 43, .int .u8 (wy : Int), .int .i64 (li : Int), .int .i64 (ri : Int), .int .i64 (k : Int)], .int .i64 (st : Int)] w fun e w' => PaOut (rep G (fsOf f) s (.node 43 wy u l r) st p) b g cap G K f B ns s w e w' := by
  have hbl := HR.out.wy.lt
  have hgl := HR.out.nr.lt
  have e1 : w.heap.size ≠ b := by omega
  obtain ⟨x, hxe⟩ : ∃ x, x = rep G (fsOf f) s (.node 43 wy u l r) st p := ⟨_, rfl⟩
  have HE : Hid (x = rep G (fsOf f) s (.node 43 wy u l r) st p) := hxe
  rw [← hxe]
  clear hxe
  go_enter Try.func58, Try.ntmps58
  go_wp2_with fail
  refine (cskip_any b g cap 60 p G K f B ns s _ hs hp (by omega) (HR.out.alloc _)).mono ?_
  rintro e w1 ⟨⟨hA, rfl, hcr⟩ | ⟨hA, rfl, hcr⟩, hkq⟩
  · have hp1 : p + 1 ≤ s.size := isAt_lt hA
    have HA : Hid (isAt s p 60 = true) := hA
    have c2 : w1.cell? ⟨w.heap.size, 2, none⟩ = some (.int .i64 (li : Int)) := by rw [hkq.cell (by simp) e1]; simp
    have HC1 : Hid (Cr w1 b g cap G K f B ns s (p + 1)) := hcr
    have HK1 : Hid (Kq b w w1) := hkq.unbox
    clear hA hcr hkq
    go_wp2_with fail
    refine (HL.out _ st (p + 1) HC1 hst hp1).mono ?_
    rintro e w3 ⟨q2, hcr, hq2, hkq, hx⟩
    have HX3 : Hid ((rep G (fsOf f) s l st (p + 1) = none ∧ e = .returned (.bool false)) ∨ (rep G (fsOf f) s l st (p + 1) = some q2 ∧ e = .returned (.bool true))) := hx
    have HC3 : Hid (Cr w3 b g cap G K f B ns s q2) := hcr
    have HK3 : Hid (Kq b w w3) := HK1.out.trans hkq
    clear hcr hkq hx
    obtain ⟨Y, rfl⟩ : ∃ Y, e = .returned (.bool Y) := by rcases HX3.out with ⟨_, h⟩ | ⟨_, h⟩ <;> exact ⟨_, h⟩
    go_wp2_with fail
    go_ret
    refine ⟨q2, HC3.out, hq2, HK3.out, ?_⟩
    rw [HE.out, rep_or1 HA.out]
    exact HX3.out
  · have HA : Hid (isAt s p 60 = false) := hA
    have c3 : w1.cell? ⟨w.heap.size, 3, none⟩ = some (.int .i64 (ri : Int)) := by rw [hkq.cell (by simp) e1]; simp
    have hlt : w.heap.size < w1.heap.size := by have := hkq.size; simp at this; omega
    have HC1 : Hid (Cr w1 b g cap G K f B ns s p) := hcr
    have HK1 : Hid (Kq b w w1) := hkq.unbox
    clear hA hcr hkq
    go_wp2_with fail
    refine (cskip_any b g cap 62 p G K f B ns s _ hs hp (by omega) HC1).mono ?_
    rintro e w2 ⟨⟨hA2, rfl, hcr⟩ | ⟨hA2, rfl, hcr⟩, hkq⟩
    · have hp1 : p + 1 ≤ s.size := isAt_lt hA2
      have HA2 : Hid (isAt s p 62 = true) := hA2
      have d3 : w2.cell? ⟨w.heap.size, 3, none⟩ = some (.int .i64 (ri : Int)) := by rw [hkq.cell hlt e1]; exact c3
      have HC2 : Hid (Cr w2 b g cap G K f B ns s (p + 1)) := hcr
      have HK2 : Hid (Kq b w w2) := HK1.out.trans hkq
      clear hA2 hcr hkq
      go_wp2_with fail
      refine (HRR.out _ st (p + 1) HC2 hst hp1).mono ?_
      rintro e w3 ⟨q2, hcr, hq2, hkq, hx⟩
      have HX3 : Hid ((rep G (fsOf f) s r st (p + 1) = none ∧ e = .returned (.bool false)) ∨ (rep G (fsOf f) s r st (p + 1) = some q2 ∧ e = .returned (.bool true))) := hx
      have HC3 : Hid (Cr w3 b g cap G K f B ns s q2) := hcr
      have HK3 : Hid (Kq b w w3) := HK2.out.trans hkq
      clear hcr hkq hx
      obtain ⟨Y, rfl⟩ : ∃ Y, e = .returned (.bool Y) := by rcases HX3.out with ⟨_, h⟩ | ⟨_, h⟩ <;> exact ⟨_, h⟩
      go_wp2_with fail
      go_ret
      refine ⟨q2, HC3.out, hq2, HK3.out, ?_⟩
      rw [HE.out, rep_or2 HA.out HA2.out]
      exact HX3.out
    · have HA2 : Hid (isAt s p 62 = false) := hA2
      have HC2 : Hid (Cr w2 b g cap G K f B ns s p) := hcr
      have HK2 : Hid (Kq b w w2) := HK1.out.trans hkq
      clear hA2 hcr hkq
      go_wp2_with fail
      go_ret
      exact ⟨p, HC2.out, hp, HK2.out, .inl ⟨by rw [HE.out]; exact rep_or0 HA.out HA2.out, rfl⟩⟩
end

end Go.Proofs.Ytcfbfdjmcabnkaa

