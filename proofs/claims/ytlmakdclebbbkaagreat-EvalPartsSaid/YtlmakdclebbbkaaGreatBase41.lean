/- Texts, merged in one. -/
import Derived.Test.YtlmakdclebbbkaaGreatBase40
import Derived.Test.YtlmakdclebbbkaaGreatBase39
import Derived.Test.YtlmakdclebbbkaaGreatBase36
import Derived.Test.YtlmakdclebbbkaaGreatBase37
import Derived.Deep.DeepCutAuto
import Derived.BigQuiet
namespace Go.Proofs.YtlmakdclebbbkaaGreat
open Go.ChangeShapes Go.WideShapes Go.ChangeAt Go.RowKit
set_option linter.unusedVariables false
set_option linter.unusedSimpArgs false
set_option maxRecDepth 100000
def EV.val (u : EV) (sv : Value) : Value := .agg #[.bool u.num, .int .i64 u.n, sv]
structure EvTwo (w0 : World) (b4 b5 : Nat) (u v : EV) (su sv : Value) (W : World) : Prop where
  x4 : Blk W b4 95 [.bool u.num, .int .i64 u.n, su]
  x5 : Blk W b5 95 [.bool v.num, .int .i64 v.n, sv]
  pu : VAt u.ps su W
  pv : VAt v.ps sv W
  bel : Below w0.heap.size w0 W
theorem EvTwo.below {w0 W W' : World} {b4 b5 : Nat} {u v : EV} {su sv : Value} (h : EvTwo w0 b4 b5 u v su sv W) (hb : Below W.heap.size W W') : EvTwo w0 b4 b5 u v su sv W' := ⟨h.x4.below hb h.x4.lt, h.x5.below hb h.x5.lt, h.pu.below hb, h.pv.below hb, h.bel.trans (hb.mono h.bel.size)⟩
theorem EvTwo.start (w : World) (u v : EV) (su sv : Value) (hu : VAt u.ps su w) (hv : VAt v.ps sv w) : EvTwo w w.heap.size (w.heap.size + 1) u v su sv ((w.alloc (.cells #[.bool u.num, .int .i64 u.n, su] 95)).alloc (.cells #[.bool v.num, .int .i64 v.n, sv] 95)) := by
  have h1 : (w.alloc (.cells #[.bool u.num, .int .i64 u.n, su] 95)).heap.size = w.heap.size + 1 := by simp
  have hb : Below w.heap.size w ((w.alloc (.cells #[.bool u.num, .int .i64 u.n, su] 95)).alloc (.cells #[.bool v.num, .int .i64 v.n, sv] 95)) := ((Below.refl _ _).alloc (Nat.le_refl _) _).alloc (by simp) _
  refine ⟨(Blk.mk (heap_alloc_new w _)).alloc _, ?_, hu.below hb, hv.below hb, hb⟩
  have h := (Blk.mk (heap_alloc_new (w.alloc (.cells #[.bool u.num, .int .i64 u.n, su] 95)) (.cells #[.bool v.num, .int .i64 v.n, sv] 95)) : Blk _ _ 95 [.bool v.num, .int .i64 v.n, sv])
  rwa [h1] at h
set_option maxHeartbeats 2000000 in
theorem reckoned_v (k : Int) (u v : EV) (su sv : Value) (L : List Pt) (er : Int) (w : World) (hk : k ≤ 7) (hr : twoE k u v = (L, er)) (hu : VAt u.ps su w) (hv : VAt v.ps sv w) (hl : u.ps.length + v.ps.length ≤ 1000) (gu : Fine u.ps) (gv : Fine v.ps) (wu : I64 u.n) (wv : I64 v.n) :
    Calls Tryz.prog 116 #[.int .i64 k, u.val su, v.val sv] w (VAnsE L er w) := by
  have HS := Lib.hid (EvTwo.start w u v su sv hu hv)
  have HFU := Lib.hid gu; have HFV := Lib.hid gv
  have HWU := Lib.hid wu; have HWV := Lib.hid wv
  obtain ⟨A, ca, ra, rfl, ea, ha, ha2⟩ := hu
  obtain ⟨B, cb, rb, rfl, eb, hb, hb2⟩ := hv
  clear ea ha ha2 eb hb hb2 gu gv wu wv
  generalize ra.length = na at *
  generalize rb.length = nb at *
  obtain ⟨un, un2, ps⟩ := u
  obtain ⟨vn, vn2, qs⟩ := v
  unfold EV.val
  simp only at hl HFU HFV HWU HWV hr
  obtain ⟨b4, h4⟩ : ∃ q, w.heap.size = q := ⟨_, rfl⟩
  obtain ⟨b5, h5⟩ : ∃ q, w.heap.size + 1 = q := ⟨_, rfl⟩
  obtain ⟨W1, hW1⟩ : ∃ V, (w.alloc (.cells #[.bool un, .int .i64 un2, .slice A na ca] 95)).alloc (.cells #[.bool vn, .int .i64 vn2, .slice B nb cb] 95) = V := ⟨_, rfl⟩
  have HT := Lib.hid (show EvTwo w b4 b5 ⟨un, un2, ps⟩ ⟨vn, vn2, qs⟩ (.slice A na ca) (.slice B nb cb) W1 by have h := HS.out; rw [h5, h4] at h; rw [← hW1]; exact h)
  have HEQ := Lib.hid (And.intro h4 (And.intro h5 hW1))
  clear HS h4 h5 hW1
  have HR := Lib.hid hr
  clear hr
  show Calls _ _ #[.int .i64 k, .agg #[.bool un, .int .i64 un2, .slice A na ca], .agg #[.bool vn, .int .i64 vn2, .slice B nb cb]] _ _
  go_enter Tryz.func116, Tryz.ntmps116
  go_upto_region 1 with fail
  rw [HEQ.out.2.2, HEQ.out.2.1, HEQ.out.1]
  clear HEQ
  have x0 := HT.out.x4.cell 0; have x1 := HT.out.x4.cell 1; have x2 := HT.out.x4.cell 2
  have y0 := HT.out.x5.cell 0; have y1 := HT.out.x5.cell 1; have y2 := HT.out.x5.cell 2
  simp only [List.getElem?_cons_zero, List.getElem?_cons_succ] at x0 x1 x2 y0 y1 y2
  cases un with
  | true =>
    have HQ : Hid (scaleR k un2 true qs = (L, er)) := Lib.hid (by have h := HR.out; unfold twoE at h; rw [if_pos hk] at h; simpa using h)
    have HC := Lib.hid (scale_v k un2 true HQ.out HT.out.pv (by omega) HFV.out HWU.out)
    go_wp2_with fail
    (with_reducible refine HC.out.mono ?_); rintro e w2 ⟨v2, rfl, hv2, hb2⟩
    have HG := Lib.hid hv2; have HB := Lib.hid (HT.out.bel.trans (hb2.mono HT.out.bel.size))
    clear hv2 hb2 HC HT HFU HFV HR x0 x1 x2 y0 y1 y2
    go_wp2_with fail
    go_ret2
    exact ⟨_, rfl, HG.out, HB.out⟩
  | false =>
    cases vn with
    | true =>
      have HQ : Hid (scaleR k vn2 false ps = (L, er)) := Lib.hid (by have h := HR.out; unfold twoE at h; rw [if_pos hk] at h; simpa using h)
      have HC := Lib.hid (scale_v k vn2 false HQ.out HT.out.pu (by omega) HFU.out HWV.out)
      go_wp2_with fail
      (with_reducible refine HC.out.mono ?_); rintro e w2 ⟨v2, rfl, hv2, hb2⟩
      have HG := Lib.hid hv2; have HB := Lib.hid (HT.out.bel.trans (hb2.mono HT.out.bel.size))
      clear hv2 hb2 HC HT HFU HFV HR x0 x1 x2 y0 y1 y2
      go_wp2_with fail
      go_ret2
      exact ⟨_, rfl, HG.out, HB.out⟩
    | false =>
      have HQ : Hid (mathR k ps qs = (L, er)) := Lib.hid (by have h := HR.out; unfold twoE at h; rw [if_pos hk] at h; simpa using h)
      have HC := Lib.hid (math_v k HQ.out HT.out.pu HT.out.pv (by omega) HFU.out HFV.out)
      go_wp2_with fail
      (with_reducible refine HC.out.mono ?_); rintro e w2 ⟨v2, rfl, hv2, hb2⟩
      have HG := Lib.hid hv2; have HB := Lib.hid (HT.out.bel.trans (hb2.mono HT.out.bel.size))
      clear hv2 hb2 HC HT HFU HFV HR x0 x1 x2 y0 y1 y2
      go_wp2_with fail
      go_ret2
      exact ⟨_, rfl, HG.out, HB.out⟩
set_option maxHeartbeats 2000000 in
theorem compared_v (k : Int) (u v : EV) (su sv : Value) (L : List Pt) (er : Int) (w : World) (hk : 8 ≤ k) (hk2 : k ≤ 13) (hr : twoE k u v = (L, er)) (hu : VAt u.ps su w) (hv : VAt v.ps sv w) (hl : u.ps.length + v.ps.length ≤ 1000) (gu : Fine u.ps) (gv : Fine v.ps) (wu : I64 u.n) (wv : I64 v.n) :
    Calls Tryz.prog 117 #[.int .i64 k, u.val su, v.val sv] w (VAnsE L er w) := by
  have HS := Lib.hid (EvTwo.start w u v su sv hu hv)
  have HFU := Lib.hid gu; have HFV := Lib.hid gv
  have HWU := Lib.hid wu; have HWV := Lib.hid wv
  obtain ⟨A, ca, ra, rfl, ea, ha, ha2⟩ := hu
  obtain ⟨B, cb, rb, rfl, eb, hb, hb2⟩ := hv
  clear ea ha ha2 eb hb hb2 gu gv wu wv
  generalize ra.length = na at *
  generalize rb.length = nb at *
  obtain ⟨un, un2, ps⟩ := u
  obtain ⟨vn, vn2, qs⟩ := v
  unfold EV.val
  simp only at hl HFU HFV HWU HWV hr
  obtain ⟨b4, h4⟩ : ∃ q, w.heap.size = q := ⟨_, rfl⟩
  obtain ⟨b5, h5⟩ : ∃ q, w.heap.size + 1 = q := ⟨_, rfl⟩
  obtain ⟨W1, hW1⟩ : ∃ V, (w.alloc (.cells #[.bool un, .int .i64 un2, .slice A na ca] 95)).alloc (.cells #[.bool vn, .int .i64 vn2, .slice B nb cb] 95) = V := ⟨_, rfl⟩
  have HT := Lib.hid (show EvTwo w b4 b5 ⟨un, un2, ps⟩ ⟨vn, vn2, qs⟩ (.slice A na ca) (.slice B nb cb) W1 by have h := HS.out; rw [h5, h4] at h; rw [← hW1]; exact h)
  have HEQ := Lib.hid (And.intro h4 (And.intro h5 hW1))
  clear HS h4 h5 hW1
  have HR := Lib.hid hr
  clear hr
  show Calls _ _ #[.int .i64 k, .agg #[.bool un, .int .i64 un2, .slice A na ca], .agg #[.bool vn, .int .i64 vn2, .slice B nb cb]] _ _
  go_enter Tryz.func117, Tryz.ntmps117
  go_upto_region 1 with fail
  rw [HEQ.out.2.2, HEQ.out.2.1, HEQ.out.1]
  clear HEQ
  have x0 := HT.out.x4.cell 0; have x1 := HT.out.x4.cell 1; have x2 := HT.out.x4.cell 2
  have y0 := HT.out.x5.cell 0; have y1 := HT.out.x5.cell 1; have y2 := HT.out.x5.cell 2
  simp only [List.getElem?_cons_zero, List.getElem?_cons_succ] at x0 x1 x2 y0 y1 y2
  cases vn with
  | true =>
    have HQ : Hid ((sortP (aboveF k vn2 ps), (0 : Int)) = (L, er)) := Lib.hid (by have h := HR.out; unfold twoE at h; rw [if_neg (by omega), if_neg (by omega)] at h; simpa using h)
    have HC := Lib.hid (above_v k vn2 HT.out.pu (show ps.length ≤ 1000 by omega) HFU.out)
    go_wp2_with fail
    (with_reducible refine HC.out.mono ?_); rintro e w2 ⟨v2, rfl, hv2, hb2⟩
    have HG := Lib.hid hv2; have HB := Lib.hid (HT.out.bel.trans (hb2.mono HT.out.bel.size))
    clear hv2 hb2 HC HT HFU HFV HR x0 x1 x2 y0 y1 y2
    go_wp2_with fail
    go_ret2
    have hq := HQ.out
    injection hq with hq1 hq2
    exact ⟨_, by rw [← hq2]; rfl, by rw [← hq1]; exact HG.out, HB.out⟩
  | false =>
    have HQ : Hid (filterR k ps qs = (L, er)) := Lib.hid (by have h := HR.out; unfold twoE at h; rw [if_neg (by omega), if_neg (by omega)] at h; simpa using h)
    have HC := Lib.hid (filter_v k HQ.out HT.out.pu HT.out.pv (by omega) HFU.out HFV.out)
    go_wp2_with fail
    (with_reducible refine HC.out.mono ?_); rintro e w2 ⟨v2, rfl, hv2, hb2⟩
    have HG := Lib.hid hv2; have HB := Lib.hid (HT.out.bel.trans (hb2.mono HT.out.bel.size))
    clear hv2 hb2 HC HT HFU HFV HR x0 x1 x2 y0 y1 y2
    go_wp2_with fail
    go_ret2
    exact ⟨_, rfl, HG.out, HB.out⟩
theorem ty_one {x : PE} (h : x.ty = 1) : (∃ n, x = .mk 1 n [] [] []) ∨ ∃ k a b, 3 ≤ k ∧ k ≤ 7 ∧ x = .mk k 0 [] [] [a, b] ∧ a.ty = 1 ∧ b.ty = 1 := by
  cases ty_typed (show x.ty ≠ 0 by rw [h]; decide) with
  | num n => exact .inl ⟨n, rfl⟩
  | pick n ms h1 h2 h3 => exfalso; unfold PE.ty at h; rw [if_neg (by decide), if_pos rfl] at h; split at h <;> cases h
  | one k ns a h1 h2 h3 h4 =>
    exfalso; unfold PE.ty at h
    rw [if_neg (by omega), if_neg (by omega), if_neg (by simp), if_pos (word_is h1 h2)] at h
    unfold oneT at h; split at h <;> cases h
  | two k a b h1 h2 h3 h4 =>
    refine .inr ⟨k, a, b, h1, ?_⟩
    unfold PE.ty at h
    rw [if_neg (by omega), if_neg (by omega), if_neg (by simp), if_neg (by rw [word_none (by omega)]; simp), if_pos (sign_is h1 h2)] at h
    simp only [tysP, twoT] at h
    rw [if_neg (by intro e; rcases e with e | e; exact h3 e; exact h4 e)] at h
    split at h
    · rename_i h5; exact ⟨h5.1, rfl, h5.2.1, h5.2.2⟩
    · split at h
      · cases h
      · split at h
        · cases h
        · split at h <;> cases h
theorem pe_two {x : XE} {k n : Int} {ms : List Mtc} {ns : List ByteArray} {a b : PE} (h : x.pe = .mk k n ms ns [a, b]) : ∃ mv nv kv xa xb, x = .mk k n mv ms nv ns kv [xa, xb] ∧ xa.pe = a ∧ xb.pe = b := by
  obtain ⟨kk, nn, mv, ms', nv, ns', kv, ks⟩ := x
  rw [XE.pe] at h
  injection h with h1 h2 h3 h4 h5
  subst h1; subst h2; subst h3; subst h4
  match ks, h5 with
  | [xa, xb], h5 =>
    simp only [pesX] at h5
    injection h5 with h6 h7
    injection h7 with h7 h8
    exact ⟨mv, nv, kv, xa, xb, rfl, h6, h7⟩
  | [], h5 => simp [pesX] at h5
  | [xa], h5 => simp [pesX] at h5
  | xa :: xb :: xc :: l, h5 => simp [pesX] at h5
theorem pe_one {x : XE} {k n : Int} {ms : List Mtc} {ns : List ByteArray} {a : PE} (h : x.pe = .mk k n ms ns [a]) : ∃ mv nv kv xa, x = .mk k n mv ms nv ns kv [xa] ∧ xa.pe = a := by
  obtain ⟨kk, nn, mv, ms', nv, ns', kv, ks⟩ := x
  rw [XE.pe] at h
  injection h with h1 h2 h3 h4 h5
  subst h1; subst h2; subst h3; subst h4
  match ks, h5 with
  | [xa], h5 =>
    simp only [pesX] at h5
    injection h5 with h6 h7
    exact ⟨mv, nv, kv, xa, rfl, h6⟩
  | [], h5 => simp [pesX] at h5
  | xa :: xb :: l, h5 => simp [pesX] at h5
theorem pe_none {x : XE} {k n : Int} {ms : List Mtc} {ns : List ByteArray} (h : x.pe = .mk k n ms ns []) : ∃ mv nv kv, x = .mk k n mv ms nv ns kv [] := by
  obtain ⟨kk, nn, mv, ms', nv, ns', kv, ks⟩ := x
  rw [XE.pe] at h
  injection h with h1 h2 h3 h4 h5
  subst h1; subst h2; subst h3; subst h4
  match ks, h5 with
  | [], h5 => exact ⟨mv, nv, kv, rfl⟩
  | xa :: l, h5 => simp [pesX] at h5
def NumSaid (d : Nat) : Prop := ∀ (x : XE) (w : World), okX d x w → x.pe.ty = 1 → x.pe.fits → Calls Tryz.prog 51 #[x.val] w fun e w' => e = .returned (.tuple #[.int .i64 (numV d x.pe).1, .int .i64 (numV d x.pe).2]) ∧ Below w.heap.size w w'
set_option maxHeartbeats 4000000 in
theorem number_step (d : Nat) (IH : NumSaid d) : NumSaid (d + 1) := by
  intro x w h ht hf
  have h0 := h
  obtain ⟨A1, c1, A2, c2, A3, c3, e1, e2, e3⟩ := okX_forms h
  rcases ty_one ht with ⟨n, hx⟩ | ⟨k, a, b, hk1, hk2, hx, ha, hb⟩
  · obtain ⟨mv, nv, kv, rfl⟩ := pe_none hx
    simp only [XE.mv, XE.nv, XE.kv, XE.ms, XE.ns, XE.kids] at e1 e2 e3
    subst e1; subst e2; subst e3
    rw [hx]
    have HN : Hid (numV (d + 1) (.mk 1 n [] [] []) = (n, 0)) := Lib.hid (by unfold numV; rw [if_pos rfl])
    rw [HN.out]
    have HB := Lib.hid ((Below.refl w.heap.size w).alloc (Nat.le_refl _) (.cells #[.int .i64 1, .int .i64 n, .slice A1 0 c1, .slice A2 0 c2, .slice A3 0 c3] 37))
    have HX := Lib.hid (Blk.mk (heap_alloc_new w (.cells #[.int .i64 1, .int .i64 n, .slice A1 0 c1, .slice A2 0 c2, .slice A3 0 c3] 37)) : Blk _ w.heap.size 37 [.int .i64 1, .int .i64 n, .slice A1 0 c1, .slice A2 0 c2, .slice A3 0 c3])
    clear h h0 ht hf hx IH
    show Calls _ _ #[.agg #[.int .i64 1, .int .i64 n, .slice A1 0 c1, .slice A2 0 c2, .slice A3 0 c3]] _ _
    go_enter Tryz.func51, Tryz.ntmps51
    go_upto_region 1 with fail
    have z0 := HX.out.cell 0; have z1 := HX.out.cell 1
    simp only [List.getElem?_cons_zero, List.getElem?_cons_succ] at z0 z1
    go_wp2_with fail
    go_ret2
    exact ⟨rfl, HB.out⟩
  · obtain ⟨mv, nv, kv, xa, xb, rfl, hpa, hpb⟩ := pe_two hx
    simp only [XE.mv, XE.nv, XE.kv, XE.ms, XE.ns, XE.kids] at e1 e2 e3
    subst e1; subst e2; subst e3
    obtain ⟨s3, m3, m3'⟩ := Slc.slice h.2.2.1
    replace s3 : Sees w w.heap.size 5 A3 2 (kcells [xa, xb]) := s3
    obtain ⟨ad, hA3⟩ : ∃ ad, A3 = some ad := by
      obtain ⟨ad, e, _, _⟩ := s3.at_ (by omega)
      exact ⟨ad, e⟩
    subst hA3
    rw [hx]
    rw [hx] at hf
    have hfa : a.fits ∧ b.fits := by unfold PE.fits at hf; simp only [fitsP] at hf; exact ⟨hf.2.1, hf.2.2.1⟩
    have hbb : Below w.heap.size w (w.alloc (.cells #[.int .i64 k, .int .i64 0, .slice A1 0 c1, .slice A2 0 c2, .slice (some ad) 2 c3] 37)) := (Below.refl _ _).alloc (Nat.le_refl _) _
    have HA0 : Hid (T2At w w.heap.size d k 0 (.slice A1 0 c1) (.slice A2 0 c2) ad c3 xa xb (w.alloc (.cells #[.int .i64 k, .int .i64 0, .slice A1 0 c1, .slice A2 0 c2, .slice (some ad) 2 c3] 37))) := Lib.hid ⟨hbb, Blk.mk (heap_alloc_new w _), (s3.below hbb).more hbb.size, okX_below hbb d xa (h.2.2.2 xa (by simp [XE.kids])), okX_below hbb d xb (h.2.2.2 xb (by simp [XE.kids]))⟩
    obtain ⟨⟨av, ae⟩, hav⟩ : ∃ r, numV d a = r := ⟨_, rfl⟩
    obtain ⟨⟨bv, be⟩, hbv⟩ : ∃ r, numV d b = r := ⟨_, rfl⟩
    have wav := numV_in d a hfa.1; have wbv := numV_in d b hfa.2
    rw [hav] at wav; rw [hbv] at wbv
    have HNF : Hid (numV (d + 1) (.mk k 0 [] [] [a, b]) = if ae ≠ 0 then (0, ae) else if be ≠ 0 then (0, be) else reckonF k av bv) := Lib.hid (by unfold numV; rw [if_neg (by omega)]; simp only [hav, hbv])
    have HTA := Lib.hid (show ∀ V bx v2 v3, T2At w bx d k 0 v2 v3 ad c3 xa xb V → Calls Tryz.prog 51 #[.agg #[.int .i64 xa.kd, .int .i64 xa.n, xa.mv, xa.nv, xa.kv]] V fun e w' => e = .returned (.tuple #[.int .i64 av, .int .i64 ae]) ∧ Below V.heap.size V w' from fun V bx v2 v3 hV => by
      have h := IH xa V hV.oka (by rw [hpa]; exact ha) (by rw [hpa]; exact hfa.1)
      rw [hpa, hav] at h; exact h)
    have HTB := Lib.hid (show ∀ V bx v2 v3, T2At w bx d k 0 v2 v3 ad c3 xa xb V → Calls Tryz.prog 51 #[.agg #[.int .i64 xb.kd, .int .i64 xb.n, xb.mv, xb.nv, xb.kv]] V fun e w' => e = .returned (.tuple #[.int .i64 bv, .int .i64 be]) ∧ Below V.heap.size V w' from fun V bx v2 v3 hV => by
      have h := IH xb V hV.okb (by rw [hpb]; exact hb) (by rw [hpb]; exact hfa.2)
      rw [hpb, hbv] at h; exact h)
    have HRC := Lib.hid (fun V => reckon_any k av bv V wav wbv)
    generalize numV (d + 1) (.mk k 0 [] [] [a, b]) = res at *
    have hk1e : (k == 1) = false := by rw [beq_eq_false_iff_ne]; omega
    have hk1n : ¬ k = 1 := by omega
    have m3 : 2 ≤ c3 := m3
    clear h h0 ht hf hx IH s3 hbb hav hbv wav wbv ha hb hpa hpb hfa m3'
    show Calls _ _ #[.agg #[.int .i64 k, .int .i64 0, .slice A1 0 c1, .slice A2 0 c2, .slice (some ad) 2 c3]] _ _
    have HG := Lib.hid (show ∃ g, w.heap.size = g from ⟨_, rfl⟩)
    go_enter Tryz.func51, Tryz.ntmps51
    go_upto_region 1 with fail
    obtain ⟨bx, hbx⟩ := HG.out
    rw [hbx]
    have HA := Lib.hid (hbx ▸ HA0.out)
    clear HG HA0
    have HBX := Lib.hid hbx
    clear hbx
    generalize w.alloc (.cells #[.int .i64 k, .int .i64 0, .slice A1 0 c1, .slice A2 0 c2, .slice (some ad) 2 c3] 37) = W1 at *
    obtain ⟨x0, x1, x2, x3, x4⟩ := blk_cells5 HA.out.box
    obtain ⟨q0, q1, q2, q3, q4⟩ := kidT_cells0 HA.out.cell
    go_wp2_with fail
    (with_reducible refine (HTA.out _ _ _ _ HA.out).mono ?_); rintro e w2 ⟨rfl, hb2⟩
    have HA2 := Lib.hid (HA.out.below hb2)
    clear x0 x1 x2 x3 x4 q0 q1 q2 q3 q4 hb2 HA HTA
    by_cases ha0 : ae = 0
    case neg =>
      have t1 : (ae != 0) = true := by rw [bne_iff_ne]; exact ha0
      have HR : Hid (res = (0, ae)) := Lib.hid (by rw [HNF.out, if_pos ha0])
      clear ha0
      go_wp2_with fail
      go_ret2
      exact ⟨by rw [HR.out]; rfl, HA2.out.bel⟩
    case pos =>
    subst ha0
    obtain ⟨x0, x1, x2, x3, x4⟩ := blk_cells5 HA2.out.box
    obtain ⟨q0, q1, q2, q3, q4⟩ := kidT_cells5 HA2.out.cell
    go_wp2_with fail
    (with_reducible refine (HTB.out _ _ _ _ HA2.out).mono ?_); rintro e w3 ⟨rfl, hb3⟩
    have HA3 := Lib.hid (HA2.out.below hb3)
    clear x0 x1 x2 x3 x4 q0 q1 q2 q3 q4 hb3 HA2 HTB
    by_cases hb0 : be = 0
    case neg =>
      have t1 : (be != 0) = true := by rw [bne_iff_ne]; exact hb0
      have HR : Hid (res = (0, be)) := Lib.hid (by rw [HNF.out, if_neg (by simp), if_pos hb0])
      clear hb0
      go_wp2_with fail
      go_ret2
      exact ⟨by rw [HR.out]; rfl, HA3.out.bel⟩
    case pos =>
    subst hb0
    have HR : Hid (res = reckonF k av bv) := Lib.hid (by rw [HNF.out, if_neg (by simp), if_neg (by simp)])
    obtain ⟨x0, x1, x2, x3, x4⟩ := blk_cells5 HA3.out.box
    go_wp2_with fail
    (with_reducible refine (HRC.out _).mono ?_); rintro e w4 ⟨rfl, rfl⟩
    clear x0 x1 x2 x3 x4
    go_wp2_with fail
    go_ret2
    exact ⟨by rw [HR.out]; rfl, HA3.out.bel⟩
theorem numE_any : ∀ d, NumSaid d
  | 0 => fun x w h => h.elim
  | d + 1 => number_step d (numE_any d)
end Go.Proofs.YtlmakdclebbbkaaGreat
